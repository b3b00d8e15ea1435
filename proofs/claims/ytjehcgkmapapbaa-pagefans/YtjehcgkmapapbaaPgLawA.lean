/-
  Layer 9's statements: the first question.
-/
import Derived.Test.YtjehcgkmapapbaaPgProg
import Derived.Test.YtjehcgkmapapbaaPgEq
import Derived.Test.YtjehcgkmapapbaaTails
namespace Go.Proofs.Ytjehcgkmapapbaa
set_option linter.unusedVariables false
set_option linter.unusedSimpArgs false
open Go.RowKit

def leaf5 : List Pg.Seat := [⟨false, 0, 0⟩, ⟨false, 0, 0⟩, ⟨true, 1, 5⟩, ⟨false, 0, 0⟩, ⟨false, 0, 0⟩, ⟨false, 0, 0⟩, ⟨false, 0, 0⟩]
set_option maxRecDepth 100000 in
set_option maxHeartbeats 2000000 in
theorem pgawake_any (w : World) : Calls Try.prog 7 #[] w fun e w' => e = .returned (.bool true) ∧ Below w.heap.size w w' := by
  obtain ⟨X, hX⟩ : ∃ X, X = w.alloc (.cells #[Value.bool false, Value.int .i64 0, Value.int .i64 0, Value.bool false, Value.int .i64 0, Value.int .i64 0, Value.bool true, Value.int .i64 1, Value.int .i64 5, Value.bool false, Value.int .i64 0, Value.int .i64 0, Value.bool false, Value.int .i64 0, Value.int .i64 0, Value.bool false, Value.int .i64 0, Value.int .i64 0, Value.bool false, Value.int .i64 0, Value.int .i64 0] 26) := ⟨_, rfl⟩
  have hb0 : Below w.heap.size w X := by rw [hX]; exact (Below.refl _ _).alloc (Nat.le_refl _) _
  have hg0 : X.heap[w.heap.size]? = some (.cells #[Value.bool false, Value.int .i64 0, Value.int .i64 0, Value.bool false, Value.int .i64 0, Value.int .i64 0, Value.bool true, Value.int .i64 1, Value.int .i64 5, Value.bool false, Value.int .i64 0, Value.int .i64 0, Value.bool false, Value.int .i64 0, Value.int .i64 0, Value.bool false, Value.int .i64 0, Value.int .i64 0, Value.bool false, Value.int .i64 0, Value.int .i64 0] 26 (0, 0)) := by rw [hX]; exact heap_alloc_new w _
  have HG0 := hide hg0
  have HB0 := hide hb0
  have hlt0 : w.heap.size < X.heap.size := (Array.getElem?_eq_some_iff.1 hg0).1
  have hr : Pg.leafR leaf5 = true := by decide
  have HP : Hid (Calls Try.prog 10 #[.agg #[Value.bool false, Value.int .i64 0, Value.int .i64 0, Value.bool false, Value.int .i64 0, Value.int .i64 0, Value.bool true, Value.int .i64 1, Value.int .i64 5, Value.bool false, Value.int .i64 0, Value.int .i64 0, Value.bool false, Value.int .i64 0, Value.int .i64 0, Value.bool false, Value.int .i64 0, Value.int .i64 0, Value.bool false, Value.int .i64 0, Value.int .i64 0]] X fun e w' => ∃ h c tail, e = .returned (.tuple #[.slice (some ⟨h, 0, none⟩) 64 c, .bool true]) ∧ 64 ≤ c ∧ c ≤ maxLen ∧ X.heap.size ≤ h ∧ w'.heap[h]? = some (.cells ((Pg.leaf leaf5).map (Value.int .u8) ++ tail).toArray 5 (0, 0)) ∧ Below X.heap.size X w') := putleaf_yes leaf5 X rfl hr
  have HLV : Hid (∀ W, Calls Try.prog 13 #[.agg #[Value.bool false, Value.int .i64 0, Value.int .i64 0, Value.bool false, Value.int .i64 0, Value.int .i64 0, Value.bool true, Value.int .i64 1, Value.int .i64 5, Value.bool false, Value.int .i64 0, Value.int .i64 0, Value.bool false, Value.int .i64 0, Value.int .i64 0, Value.bool false, Value.int .i64 0, Value.int .i64 0, Value.bool false, Value.int .i64 0, Value.int .i64 0]] W fun e w' => e = .returned (.int .i64 1) ∧ Below W.heap.size W w') := fun W => lives_any leaf5 W rfl
  have HPF : Hid (∀ W, Calls Try.prog 14 #[.agg #[Value.int .i64 0, Value.int .i64 0, Value.int .i64 0, Value.int .i64 0, Value.int .i64 0, Value.int .i64 0, Value.int .i64 0, Value.int .i64 0, Value.int .i64 0, Value.int .i64 0, Value.int .i64 0, Value.int .i64 0, Value.int .i64 0, Value.int .i64 0, Value.int .i64 0, Value.int .i64 0]] W fun e w' => ∃ h c tail, e = .returned (.tuple #[.slice (some ⟨h, 0, none⟩) 64 c, .bool true]) ∧ 64 ≤ c ∧ c ≤ maxLen ∧ W.heap.size ≤ h ∧ w'.heap[h]? = some (.cells ((Pg.fan Pg.nilF).map (Value.int .u8) ++ tail).toArray 5 (0, 0)) ∧ Below W.heap.size W w') := fun W => putfan_yes Pg.nilF W rfl (by decide)
  have HEM : Hid (∀ W, Calls Try.prog 17 #[.agg #[Value.int .i64 0, Value.int .i64 0, Value.int .i64 0, Value.int .i64 0, Value.int .i64 0, Value.int .i64 0, Value.int .i64 0, Value.int .i64 0, Value.int .i64 0, Value.int .i64 0, Value.int .i64 0, Value.int .i64 0, Value.int .i64 0, Value.int .i64 0, Value.int .i64 0, Value.int .i64 0]] W fun e w' => e = .returned (.bool true) ∧ Below W.heap.size W w') := fun W => empty_any Pg.nilF W rfl
  have hEQ : ∀ W, (binOp .eql 26 (.agg (leafC leaf5)) (.agg #[Value.bool false, Value.int .i64 0, Value.int .i64 0, Value.bool false, Value.int .i64 0, Value.int .i64 0, Value.bool true, Value.int .i64 1, Value.int .i64 5, Value.bool false, Value.int .i64 0, Value.int .i64 0, Value.bool false, Value.int .i64 0, Value.int .i64 0, Value.bool false, Value.int .i64 0, Value.int .i64 0, Value.bool false, Value.int .i64 0, Value.int .i64 0])).run Try.prog W = .ok (.bool true) W := fun W => run_eql_leaf leaf5 rfl W
  have HTL := hide (Pg.tells_leaf (l := leaf5) rfl hr)
  have HGB := hide (Pg.got_leaf (l := leaf5) rfl hr)
  have HBL := hide (Pg.leaf_length (l := leaf5) rfl)
  have HBB := hide (Pg.leaf_bytes (l := leaf5) rfl)
  clear hg0 hb0
  generalize Pg.leaf leaf5 = bl at *
  generalize Pg.fan Pg.nilF = fl at *
  go_enter Try.func7, Try.ntmps7
  go_wp2_with (refine wpList_load_row rfl 26 _ rfl w.heap.size rfl 26 _ (0, 0) _ (heap_alloc_new w _) Try.underlying26 rfl info_leaf ?_)
  rw [← hX]
  clear hX
  refine HP.out.mono ?_
  rintro e w1 ⟨h, c, tail, rfl, hc, hcm, hh, hblk, hb1⟩
  have hA1 := arg_tail hblk HBB.out HBL.out hc hcm
  have HG := hide (getleaf_any hA1 (by decide))
  rw [HTL.out, HGB.out] at HG
  have HB1 := hide (HB0.out.trans (hb1.mono HB0.out.size))
  have HG1 := hide ((hb1.block _ hlt0).trans HG0.out)
  clear hA1 hblk hb1
  go_wp2_with fail
  refine HG.out.mono ?_
  rintro e w2 ⟨rfl, hb2⟩
  have HB2 := hide (HB1.out.trans (hb2.mono HB1.out.size))
  have HG2 := hide ((hb2.block _ (Array.getElem?_eq_some_iff.1 HG1.out).1).trans HG1.out)
  obtain ⟨X2, hX2⟩ : ∃ X2, X2 = (w2.alloc (.cells #[Value.bool false, Value.int .i64 0, Value.int .i64 0, Value.bool false, Value.int .i64 0, Value.int .i64 0, Value.bool false, Value.int .i64 0, Value.int .i64 0, Value.bool false, Value.int .i64 0, Value.int .i64 0, Value.bool false, Value.int .i64 0, Value.int .i64 0, Value.bool false, Value.int .i64 0, Value.int .i64 0, Value.bool false, Value.int .i64 0, Value.int .i64 0] 26)).setRow w2.heap.size (leafC leaf5) := ⟨_, rfl⟩
  have hbX : Below w2.heap.size w2 X2 := by rw [hX2]; exact below_setRow ((Below.refl _ _).alloc (Nat.le_refl _) _) (Nat.le_refl _) _
  have HX2 : Hid (X2.heap[w2.heap.size]? = some (.cells (leafC leaf5) 26 (0, 0))) := by show _ = _; rw [hX2]; exact setRow_heap _ _ _ _ _ _ (heap_alloc_new w2 _)
  have HB2' := hide (HB2.out.trans (hbX.mono HB2.out.size))
  have HG2' := hide ((hbX.block _ (Array.getElem?_eq_some_iff.1 HG2.out).1).trans HG2.out)
  clear hb2 hbX
  go_wp2_with (refine wpList_store_row rfl 26 _ _ rfl w2.heap.size (leafC leaf5) rfl rfl 26 _ (heap_alloc_new w2 _) (leaf_size rfl) rfl (leafC_one _) ?_)
  rw [← hX2]
  refine (HPF.out _).mono ?_
  rintro e w3 ⟨h', c', tail', rfl, hc', hcm', hh', hblk', hb3⟩
  have HB3 := hide (HB2'.out.trans (hb3.mono HB2'.out.size))
  have HG3 := hide ((hb3.block _ (Array.getElem?_eq_some_iff.1 HG2'.out).1).trans HG2'.out)
  have HX3 := hide ((hb3.block _ (Array.getElem?_eq_some_iff.1 HX2.out).1).trans HX2.out)
  clear hb3 hblk' hX2
  go_wp2_with (first
    | (refine wpList_load_row_on (by rfl) 26 _ rfl w.heap.size rfl 26 _ (0, 0) _ HG3.out Try.underlying26 rfl info_leaf ?_)
    | (refine wpList_load_row_on (by rfl) 26 _ rfl w2.heap.size rfl 26 _ (0, 0) _ HX3.out Try.underlying26 rfl (leaf_size rfl) ?_)
    | (go_at_call 13; refine (HLV.out _).mono ?_; rintro e w4 ⟨rfl, hb4⟩)
    | (go_at_call 17; refine (HEM.out _).mono ?_; rintro e w5 ⟨rfl, hb5⟩))
  go_ret
  have hb := HB3.out.trans (hb4.mono HB3.out.size)
  exact ⟨rfl, hb.trans (hb5.mono hb.size)⟩
end Go.Proofs.Ytjehcgkmapapbaa
