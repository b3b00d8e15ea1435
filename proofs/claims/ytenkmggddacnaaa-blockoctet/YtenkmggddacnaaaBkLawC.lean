/-
  Layer 7's statements: BlockOctet.
-/
import Derived.Test.YtenkmggddacnaaaBkLawA
import Derived.Test.YtenkmggddacnaaaRest
namespace Go.Proofs.Ytenkmggddacnaaa
set_option linter.unusedVariables false
set_option linter.unusedSimpArgs false
open Go.RowKit

theorem byte_at {zs : List Int} (h : Nums.Bytes zs) (k : Nat) : 0 ≤ zs.getD k 0 ∧ zs.getD k 0 ≤ 255 := by
  by_cases hk : k < zs.length
  · rw [List.getD_eq_getElem?_getD, List.getElem?_eq_getElem hk]
    exact h _ (List.getElem_mem hk)
  · rw [List.getD_eq_getElem?_getD, List.getElem?_eq_none (by omega)]
    decide
/-- an octet at the head of a block, read and written. -/
theorem tail_cell {w : World} {g : Nat} {zs : List Int} {tail : List Value} {T : TypeId} (h : w.heap[g]? = some (.cells (zs.map (Value.int .u8) ++ tail).toArray T (0, 0))) {j : Nat} (hj : j < zs.length) : w.cell? ⟨g, j, none⟩ = some (.int .u8 (zs.getD j 0)) ∧ w.frozen? ⟨g, j, none⟩ = false :=
  ⟨by simp [World.cell?, h, List.getElem?_append, hj], by simp [World.frozen?, h]⟩
theorem tail_set {w : World} {g : Nat} {zs : List Int} {tail : List Value} {T : TypeId} (h : w.heap[g]? = some (.cells (zs.map (Value.int .u8) ++ tail).toArray T (0, 0))) {j : Nat} (hj : j < zs.length) (x : Int) : (w.setCell ⟨g, j, none⟩ (.int .u8 x)).heap[g]? = some (.cells ((zs.set j x).map (Value.int .u8) ++ tail).toArray T (0, 0)) := by
  rw [heap_setCell_same _ _ _ _ _ _ h]
  have e : (zs.map (Value.int .u8) ++ tail).toArray.setIfInBounds j (.int .u8 x) = ((zs.set j x).map (Value.int .u8) ++ tail).toArray := by
    rw [List.setIfInBounds_toArray, List.set_append_left _ _ (by simpa using hj), List.map_set]
  rw [e]

set_option maxRecDepth 100000 in
set_option maxHeartbeats 1000000 in
theorem octet_zero {w : World} (t : Int) (at' : Int) :
    Calls Try.prog 6 #[.int .u8 0, .int .u8 t, .int .i64 at'] w fun e w' => e = .returned (.bool true) ∧ Below w.heap.size w w' := by
  have HAW := hide (fun W => bawake_any W)
  go_enter Try.func6, Try.ntmps6
  go_wp2_with fail
  refine (HAW.out _).mono ?_
  rintro e w1 ⟨rfl, hb1⟩
  have HB1 := hide hb1
  clear hb1
  go_wp2_with fail
  refine (HAW.out _).mono ?_
  rintro e w2 ⟨rfl, hb2⟩
  have HB2 := hide (HB1.out.trans (hb2.mono HB1.out.size))
  clear hb2
  go_wp2_with fail
  go_ret
  exact ⟨rfl, HB2.out⟩

set_option maxRecDepth 100000 in
set_option maxHeartbeats 4000000 in
theorem octet_some {w : World} (k t : Int) (hk : 1 ≤ k ∧ k ≤ 255) (ht : 0 ≤ t ∧ t ≤ 255) (at' : Int) (hat : (Lit.int .i64 at').wf = true) :
    Calls Try.prog 6 #[.int .u8 k, .int .u8 t, .int .i64 at'] w fun e w' => e = .returned (.bool true) ∧ Below w.heap.size w w' := by
  have HAW := hide (fun W => bawake_any W)
  obtain ⟨hat0, hat1⟩ := bd_i64 hat
  obtain ⟨j, hj, hR⟩ := rest_nat at' 64 w (by decide) (by decide) hat
  obtain ⟨y, hy⟩ : ∃ y : Int, at'.tdiv 64 = y := ⟨_, rfl⟩
  have hyb : -9223372036854775808 ≤ y ∧ y ≤ 9223372036854775807 := by
    rw [← hy]
    by_cases h0 : 0 ≤ at'
    · rw [Int.tdiv_eq_ediv_of_nonneg h0]
      omega
    · rw [← Int.neg_neg at', Int.neg_tdiv, Int.tdiv_eq_ediv_of_nonneg (by omega)]
      omega
  obtain ⟨v, hv, hR2⟩ := rest_nat y 255 w (by decide) (by decide) (wf_of_bd hyb)
  have HR := hide hR
  have HR2 := hide hR2
  have hk0 : ¬ k = 0 := by omega
  have hkb : (k == 0) = false := by simpa using hk0
  have hbody : Nums.Bytes [98, 111, 100, 121] := fun z hz => by simp at hz; omega
  obtain ⟨B, hB⟩ : ∃ B, Bk.shut k t [98, 111, 100, 121] = B := ⟨_, rfl⟩
  have HBB : Hid (Nums.Bytes B) := by rw [← hB]; exact Bk.shut_bytes ⟨by omega, hk.2⟩ ht hbody
  have HBL : Hid (B.length = 64) := by rw [← hB]; exact Bk.shut_length (by decide)
  have HIS : Hid (Bk.isB B = true) := by rw [← hB]; exact Bk.shut_isB (by omega) (by decide)
  have HSE : Hid (∀ (W : World) (fr : Nat × Nat), Calls Try.prog 8 #[.int .i64 k, .int .i64 t, .slice (some ⟨W.heap.size, 0, none⟩) 4 4] (W.alloc (.cells #[.int .u8 98, .int .u8 111, .int .u8 100, .int .u8 121] 5 fr)) fun e w' => ∃ g c tail, e = .returned (.tuple #[.slice (some ⟨g, 0, none⟩) 64 c, .bool true]) ∧ 64 ≤ c ∧ c ≤ maxLen ∧ W.heap.size ≤ g ∧ w'.heap[g]? = some (.cells (B.map (Value.int .u8) ++ tail).toArray 5 (0, 0)) ∧ Below W.heap.size W w') := fun W fr => by
    have hA : Arg .u8 (W.alloc (.cells #[.int .u8 98, .int .u8 111, .int .u8 100, .int .u8 121] 5 fr)) (some ⟨W.heap.size, 0, none⟩) 4 4 [98, 111, 100, 121] := ⟨Nat.le_refl _, by unfold maxLen; decide, row_of_marked (zs := [98, 111, 100, 121]) (heap_alloc_new W _) rfl, fun z hz => wfu8 (hbody z hz), .inr ⟨_, _, rfl⟩⟩
    refine (bseal_yes k t hk ht hA (by decide)).mono ?_
    rintro e w' ⟨g, c, tail, rfl, h1, h2, h3, h4, h5⟩
    rw [hB] at h4
    have hb := (Below.refl W.heap.size W).alloc (Nat.le_refl _) (.cells #[.int .u8 98, .int .u8 111, .int .u8 100, .int .u8 121] 5 fr)
    exact ⟨g, c, tail, rfl, h1, h2, Nat.le_trans hb.size h3, h4, hb.trans (h5.mono hb.size)⟩
  clear hB hR hR2 hat hbody
  have hjI : (j : Int) < 64 := by omega
  obtain ⟨z, hz⟩ : ∃ z : Nat, B.getD j 0 = (z : Int) := ⟨(B.getD j 0).toNat, by have := byte_at HBB.out j; omega⟩
  have hz8 : z < 256 := by have := byte_at HBB.out j; omega
  have HZ := hide hz
  obtain ⟨v1, hv1⟩ : ∃ v1 : Nat, 1 + v = v1 := ⟨_, rfl⟩
  have hv8 : v1 < 256 := by omega
  have hv0 : v1 ≠ 0 := by omega
  have HNO := hide (Bk.octet_turned HBB.out HIS.out hj hv0 hv8)
  rw [hz, Int.toNat_natCast] at HNO
  obtain ⟨x, hx⟩ : ∃ x : Nat, z ^^^ v1 = x := ⟨_, rfl⟩
  have hx8 : x < 256 := by rw [← hx]; exact Nat.xor_lt_two_pow (n := 8) hz8 hv8
  have hxv : x ^^^ v1 = z := by rw [← hx, Nat.xor_assoc, Nat.xor_self, Nat.xor_zero]
  have hx1 := u8_xor_nat z v1 hz8 hv8
  have hx2 := u8_xor_nat x v1 hx8 hv8
  rw [hx] at hx1 HNO
  rw [hxv] at hx2
  have hvI : (1 : Int) + (v : Int) = (v1 : Int) := by omega
  have hvw : IntKind.u8.wrap (v1 : Int) = (v1 : Int) := by rw [IntKind.wrap_u8]; exact Int.emod_eq_of_lt (by omega) (by omega)
  have HS1 : Hid (Nums.Bytes (B.set j (x : Int))) := fun q hq => by
    rcases List.mem_or_eq_of_mem_set hq with h | h
    · exact HBB.out q h
    · rw [h]; omega
  have HBK : Hid ((B.set j (x : Int)).set j (z : Int) = B) := by
    show _ = _
    rw [List.set_set, ← hz, List.getD_eq_getElem?_getD, List.getElem?_eq_getElem (by rw [HBL.out]; exact hj)]
    exact List.set_getElem_self _
  have kc := fun (w : World) (C : Array Value) (n c : Nat) => Lib.run_convert_bytes_const (P := Try.prog) w 22 5 C n c Try.underlying22 Try.underlying5
  clear hx hxv hv1 hz
  go_enter Try.func6, Try.ntmps6
  go_wp2_with fail
  refine (HAW.out _).mono ?_
  rintro e w1 ⟨rfl, hb1⟩
  have HB1 := hide hb1
  clear hb1
  go_wp2_with fail
  refine (HSE.out w1 _).mono ?_
  rintro e w2 ⟨g, c, tail, rfl, hc, hcm, hg, hblk, hb2⟩
  have HB2 := hide (HB1.out.trans (hb2.mono HB1.out.size))
  have HBLK := hide hblk
  have HG := hide (Nat.le_trans HB1.out.size hg)
  clear hblk hb2 hg
  go_wp2_with fail
  refine (HR.out _).mono ?_
  rintro e w3 ⟨rfl, hw3⟩
  obtain rfl := hw3.symm
  clear kc
  go_wp2_with fail
  refine (HR2.out _).mono ?_
  rintro e w3 ⟨rfl, hw3⟩
  obtain rfl := hw3.symm
  obtain ⟨c1, z1⟩ := tail_cell HBLK.out (j := j) (by rw [HBL.out]; exact hj)
  rw [HZ.out] at c1
  have HBLK1 := hide (tail_set HBLK.out (j := j) (by rw [HBL.out]; exact hj) (x : Int))
  have HB3 := hide (HB2.out.setCell (p := ⟨g, j, none⟩) HG.out (.int .u8 (x : Int)))
  have hA3 := arg_tail HBLK1.out HS1.out (by rw [List.length_set]; exact HBL.out) hc hcm
  have HO1 := hide (bopen_no hA3 (by decide) HNO.out)
  clear hA3
  go_wp2_with fail
  refine HO1.out.mono ?_
  rintro e w4 ⟨rfl, hb4⟩
  have hblk4 := (hb4.block g (lt_of_heap HBLK1.out)).trans HBLK1.out
  have HB4 := hide (HB3.out.trans (hb4.mono HB3.out.size))
  obtain ⟨c2, z2⟩ := tail_cell hblk4 (j := j) (by rw [List.length_set, HBL.out]; exact hj)
  have hset : (B.set j (x : Int)).getD j 0 = (x : Int) := by
    rw [List.getD_eq_getElem?_getD, List.getElem?_set, if_pos rfl, if_pos (by rw [HBL.out]; exact hj)]
    rfl
  rw [hset] at c2
  have hblk5 := tail_set hblk4 (j := j) (by rw [List.length_set, HBL.out]; exact hj) (z : Int)
  rw [HBK.out] at hblk5
  have HB5 := hide (HB4.out.setCell (p := ⟨g, j, none⟩) HG.out (.int .u8 (z : Int)))
  have hA5 := arg_tail hblk5 HBB.out HBL.out hc hcm
  have HO2 := hide (bopen_yes hA5 (by decide) HIS.out)
  clear hA5 hblk5 hblk4 hset c1 z1 hb4
  go_wp2_with fail
  refine HO2.out.mono ?_
  rintro e w6 ⟨a', c', rfl, _, hb6⟩
  have HB6 := hide (HB5.out.trans (hb6.mono HB5.out.size))
  clear hb6 c2 z2
  go_wp2_with fail
  go_ret
  exact ⟨rfl, HB6.out⟩

theorem blockoctet_own {w : World} {k t at' : Int} (hk : (Lit.int .u8 k).wf = true) (ht : (Lit.int .u8 t).wf = true) (hat : (Lit.int .i64 at').wf = true) :
    Calls Try.prog 6 #[.int .u8 k, .int .u8 t, .int .i64 at'] w fun e w' => e = .returned (.bool true) ∧ Below w.heap.size w w' := by
  have h1 := bd_u8 hk
  have h2 := bd_u8 ht
  by_cases h0 : k = 0
  · subst h0
    exact octet_zero t at'
  · exact octet_some k t (by omega) h2 at' hat
end Go.Proofs.Ytenkmggddacnaaa
