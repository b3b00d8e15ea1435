/-
  Layer 13's statements: SuperOctets.
-/
import Derived.Test.YtmildaofmgeceaaSpLawD
import Derived.Test.YtmildaofmgeceaaRest
namespace Go.Proofs.Ytmildaofmgeceaa
set_option linter.unusedVariables false
set_option linter.unusedSimpArgs false
open Go.RowKit

theorem sp_tail_cell {w : World} {g : Nat} {zs : List Int} {tail : List Value} {T : TypeId} (h : w.heap[g]? = some (.cells (zs.map (Value.int .u8) ++ tail).toArray T (0, 0))) {j : Nat} (hj : j < zs.length) : w.cell? ⟨g, j, none⟩ = some (.int .u8 (zs.getD j 0)) ∧ w.frozen? ⟨g, j, none⟩ = false :=
  ⟨by simp [World.cell?, h, List.getElem?_append, hj], by simp [World.frozen?, h]⟩
theorem sp_tail_set {w : World} {g : Nat} {zs : List Int} {tail : List Value} {T : TypeId} (h : w.heap[g]? = some (.cells (zs.map (Value.int .u8) ++ tail).toArray T (0, 0))) {j : Nat} (hj : j < zs.length) (x : Int) : (w.setCell ⟨g, j, none⟩ (.int .u8 x)).heap[g]? = some (.cells ((zs.set j x).map (Value.int .u8) ++ tail).toArray T (0, 0)) := by
  rw [heap_setCell_same _ _ _ _ _ _ h]
  have e : (zs.map (Value.int .u8) ++ tail).toArray.setIfInBounds j (.int .u8 x) = ((zs.set j x).map (Value.int .u8) ++ tail).toArray := by
    rw [List.setIfInBounds_toArray, List.set_append_left _ _ (by simpa using hj), List.map_set]
  rw [e]
/-- an octet written: the same one, or another one. -/
theorem Sp.got_set {s : Sp.S} (h : Sp.right s = true) {j : Nat} (hj : j < 64) {x : Int} (hx : 0 ≤ x ∧ x ≤ 255) : Sp.got ((Sp.block s).set j x) = ((Sp.block s).getD j 0 == x) := by
  have hz := sp_byte (Sp.block_bytes h) j
  have hl := Sp.block_length h
  by_cases e : (Sp.block s).getD j 0 = x
  · have : (Sp.block s).set j x = Sp.block s := by
      rw [← e, List.getD_eq_getElem?_getD, List.getElem?_eq_getElem (by omega)]
      exact List.set_getElem_self _
    rw [this, Sp.got_block h, e]
    simp
  · obtain ⟨z, hzz⟩ : ∃ z : Nat, (Sp.block s).getD j 0 = (z : Int) := ⟨((Sp.block s).getD j 0).toNat, by omega⟩
    obtain ⟨y, rfl⟩ : ∃ y : Nat, x = (y : Int) := ⟨x.toNat, by omega⟩
    have hne : z ≠ y := fun q => e (by rw [hzz, q])
    have h0 : z ^^^ y ≠ 0 := fun q => hne (by
      have e2 : (z ^^^ y) ^^^ y = 0 ^^^ y := by rw [q]
      rwa [Nat.xor_assoc, Nat.xor_self, Nat.xor_zero, Nat.zero_xor] at e2)
    have h8 : z ^^^ y < 256 := Nat.xor_lt_two_pow (n := 8) (by omega) (by omega)
    have ht := Sp.octet_turned h hj h0 h8
    rw [hzz, Int.toNat_natCast, ← Nat.xor_assoc, Nat.xor_self, Nat.zero_xor] at ht
    rw [ht, hzz]
    symm
    simp
    omega

set_option maxRecDepth 100000 in
set_option maxHeartbeats 2000000 in
theorem superoctets_let (s : Sp.S) (at' x : Int) (w : World) (a : Option Addr) (len cap : Nat) (hA : Arg .i64 w a len cap s.charts) (hl : len ≤ maxLen) (h : ¬ (len ≤ 100 ∧ Sp.right s = true)) :
    Calls Try.prog 6 #[.agg (superC s a len cap), .int .i64 at', .int .u8 x] w fun e w' => e = .returned (.bool true) ∧ Below w.heap.size w w' := by
  obtain ⟨W, hW⟩ : ∃ W, W = w.alloc (.cells (superC s a len cap) 28) := ⟨_, rfl⟩
  have HBW : Hid (Below w.heap.size w W) := by show Below _ _ _; rw [hW]; exact (Below.refl _ _).alloc (Nat.le_refl _) _
  have hg : W.heap[w.heap.size]? = some (.cells (superC s a len cap) 28 (0, 0)) := by rw [hW]; exact heap_alloc_new w _
  have HC := hide (fun X (hb : Below W.heap.size W X) => super_cells ((hb.block _ (Array.getElem?_eq_some_iff.1 hg).1).trans hg))
  have HA := hide (hA.below HBW.out)
  have HR := hide (fun X (hb : Below W.heap.size W X) => rspright_any s a len cap (HA.out.below hb))
  have HAW := hide (fun X => spawake_any X)
  clear hg hA
  by_cases hlen : len ≤ 100
  · have hr : Sp.right s = false := by
      cases e : Sp.right s with
      | false => rfl
      | true => exact absurd ⟨hlen, e⟩ h
    have hI : ¬ (100 : Int) < (len : Int) := by omega
    rw [hr] at HR
    clear hr h
    go_enter Try.func6, Try.ntmps6
    go_wp2_with fail
    rw [← hW]
    refine (HAW.out _).mono ?_
    rintro e w1 ⟨rfl, hb1⟩
    obtain ⟨c0, c1, c2, c3, c4, c5, c6, c7, c8⟩ := HC.out _ hb1
    have HB1 := hide hb1
    clear hb1
    go_wp2_with fail
    refine (HR.out _ HB1.out).mono ?_
    rintro e w2 ⟨rfl, hb2⟩
    have HB2 := hide (HB1.out.trans (hb2.mono HB1.out.size))
    clear hb2 c0 c1 c2 c3 c4 c5 c6 c7 c8
    go_wp2_with fail
    refine (HAW.out _).mono ?_
    rintro e w3 ⟨rfl, hb3⟩
    have HB3 := hide (HBW.out.trans ((HB2.out.trans (hb3.mono HB2.out.size)).mono HBW.out.size))
    clear hb3
    go_wp2_with fail
    go_ret
    exact ⟨rfl, HB3.out⟩
  · have hI : (100 : Int) < (len : Int) := by omega
    clear h
    go_enter Try.func6, Try.ntmps6
    go_wp2_with fail
    rw [← hW]
    refine (HAW.out _).mono ?_
    rintro e w1 ⟨rfl, hb1⟩
    obtain ⟨_, _, _, _, _, _, _, _, c8⟩ := HC.out _ hb1
    have HB1 := hide hb1
    clear hb1
    go_wp2_with fail
    refine (HAW.out _).mono ?_
    rintro e w3 ⟨rfl, hb3⟩
    have HB3 := hide (HBW.out.trans ((HB1.out.trans (hb3.mono HB1.out.size)).mono HBW.out.size))
    clear hb3
    go_wp2_with fail
    go_ret
    exact ⟨rfl, HB3.out⟩

set_option maxRecDepth 100000 in
set_option maxHeartbeats 4000000 in
theorem superoctets_some (s : Sp.S) (at' x : Int) (w : World) (a : Option Addr) (len cap : Nat) (hA : Arg .i64 w a len cap s.charts) (hl : len ≤ 100) (hr : Sp.right s = true) (hat : (Lit.int .i64 at').wf = true) (hx : 0 ≤ x ∧ x ≤ 255) :
    Calls Try.prog 6 #[.agg (superC s a len cap), .int .i64 at', .int .u8 x] w fun e w' => e = .returned (.bool true) ∧ Below w.heap.size w w' := by
  obtain ⟨W, hW⟩ : ∃ W, W = w.alloc (.cells (superC s a len cap) 28) := ⟨_, rfl⟩
  have HBW : Hid (Below w.heap.size w W) := by show Below _ _ _; rw [hW]; exact (Below.refl _ _).alloc (Nat.le_refl _) _
  have hg : W.heap[w.heap.size]? = some (.cells (superC s a len cap) 28 (0, 0)) := by rw [hW]; exact heap_alloc_new w _
  have HC := hide (fun X (hb : Below W.heap.size W X) => super_cells ((hb.block _ (Array.getElem?_eq_some_iff.1 hg).1).trans hg))
  have HA := hide (hA.below HBW.out)
  have HR := hide (fun X (hb : Below W.heap.size W X) => rspright_any s a len cap (HA.out.below hb))
  have HP := hide (fun X (hb : Below W.heap.size W X) => spput_yes s a len cap (HA.out.below hb) hr)
  have HAW := hide (fun X => spawake_any X)
  obtain ⟨j, hj, hR⟩ := rest_nat at' 64 w (by decide) (by decide) hat
  have HRE := hide hR
  have HBL := hide (Sp.block_length hr)
  have HBB := hide (Sp.block_bytes hr)
  have HGS := hide (Sp.got_set hr hj hx)
  have HTL := hide (Sp.tells_block hr)
  rw [hr] at HR
  have hjI : (j : Int) < 64 := by omega
  have hI : ¬ (100 : Int) < (len : Int) := by omega
  have HS1 : Hid (Nums.Bytes ((Sp.block s).set j x)) := fun q hq => by
    rcases List.mem_or_eq_of_mem_set hq with h | h
    · exact HBB.out q h
    · rw [h]; omega
  have HTS : Hid (Sp.got ((Sp.block s).set j x) = false → Sp.tells ((Sp.block s).set j x) = Sp.zero) := fun h => Sp.tells_not h
  have HSH := hide (Sp.tells_short (zs := (Sp.block s).set j x))
  clear hg hA hr hR hat
  generalize hB : Sp.block s = B at *
  obtain ⟨q, hq⟩ : ∃ q, (B.getD j 0 == x) = q := ⟨_, rfl⟩
  rw [hq] at HGS
  clear hB
  go_enter Try.func6, Try.ntmps6
  go_wp2_with fail
  rw [← hW]
  refine (HAW.out _).mono ?_
  rintro e w1 ⟨rfl, hb1⟩
  obtain ⟨c0, c1, c2, c3, c4, c5, c6, c7, c8⟩ := HC.out _ hb1
  have HB1 := hide hb1
  clear hb1
  go_wp2_with fail
  refine (HR.out _ HB1.out).mono ?_
  rintro e w2 ⟨rfl, hb2⟩
  clear c0 c1 c2 c3 c4 c5 c6 c7 c8
  have HB2 := hide (HB1.out.trans (hb2.mono HB1.out.size))
  obtain ⟨c0, c1, c2, c3, c4, c5, c6, c7, c8⟩ := HC.out _ HB2.out
  clear hb2
  go_wp2_with fail
  refine (HP.out _ HB2.out).mono ?_
  rintro e w3 ⟨g, c, tail, rfl, hc, hcm, hgg, hblk, hb3⟩
  clear c0 c1 c2 c3 c4 c5 c6 c7 c8
  have HB3 := hide (HB2.out.trans (hb3.mono HB2.out.size))
  have HBLK := hide hblk
  have HG := hide (Nat.le_trans HB2.out.size hgg)
  clear hblk hb3 hgg
  go_wp2_with fail
  refine (HRE.out _).mono ?_
  rintro e w4 ⟨rfl, hw4⟩
  obtain rfl := hw4.symm
  obtain ⟨k1, z1⟩ := sp_tail_cell HBLK.out (j := j) (by rw [HBL.out]; exact hj)
  generalize B.getD j 0 = z at *
  have HBLK1 := hide (sp_tail_set HBLK.out (j := j) (by rw [HBL.out]; exact hj) x)
  have HB4 := hide (HB3.out.setCell (p := ⟨g, j, none⟩) HG.out (.int .u8 x))
  have hA4 := arg_tail HBLK1.out HS1.out (by rw [List.length_set]; exact HBL.out) hc hcm
  have HGT := hide (spget_any hA4 (by decide))
  rw [HGS.out] at HGT HTS
  clear hA4
  go_wp2_with fail
  refine HGT.out.mono ?_
  rintro e w5 ⟨v, rfl, hnv, hb5⟩
  have HB5 := hide (HB4.out.trans (hb5.mono HB4.out.size))
  clear k1 z1
  cases q with
  | true =>
    obtain ⟨ka, kc, rfl, hKA⟩ := hnv
    have HB6 := hide (HBW.out.trans ((HB5.out.alloc HB5.out.size (.cells (superC (Sp.tells (B.set j x)) ka (Sp.tells (B.set j x)).charts.length kc) 28)).mono HBW.out.size))
    clear hb5 hKA
    generalize Sp.tells (B.set j x) = sp at *
    unfold superC at HB6
    unfold superC
    go_wp2_with fail
    go_ret
    exact ⟨rfl, HB6.out⟩
  | false =>
    rw [HTS.out rfl] at hnv
    obtain ⟨ka, kc, rfl, hKA⟩ := hnv
    obtain ⟨X6, hX6⟩ : ∃ X, X = w5.alloc (.cells (superC Sp.zero ka 0 kc) 28) := ⟨_, rfl⟩
    have hbX : Below w5.heap.size w5 X6 := by rw [hX6]; exact (Below.refl _ _).alloc (Nat.le_refl _) _
    have HB6 := hide (HB5.out.trans (hbX.mono HB5.out.size))
    have HSM := hide (rspsame_any Sp.zero Sp.zero X6 ka none 0 kc 0 0 (hKA.below hbX) (by decide) ⟨Nat.le_refl _, Nat.zero_le _, ⟨rfl, .inl rfl⟩, (fun z hz => by cases hz), .inl rfl⟩ (by decide))
    rw [Sp.same_iff.2 rfl] at HSM
    unfold superC Sp.zero at HSM hX6
    clear hb5 hKA hbX
    unfold superC Sp.zero
    dsimp only [List.length] at HSM hX6 ⊢
    go_wp2_with fail
    rw [← hX6]
    refine HSM.out.mono ?_
    rintro e w7 ⟨rfl, hb7⟩
    have HB7 := hide (HBW.out.trans ((HB6.out.trans (hb7.mono HB6.out.size)).mono HBW.out.size))
    clear hb7
    go_wp2_with fail
    go_ret
    exact ⟨rfl, HB7.out⟩

theorem superoctets_own {s : Sp.S} {at' x : Int} {w : World} {a : Option Addr} {len cap : Nat} (hA : Arg .i64 w a len cap s.charts) (hat : (Lit.int .i64 at').wf = true) (hx : 0 ≤ x ∧ x ≤ 255) :
    Calls Try.prog 6 #[.agg (superC s a len cap), .int .i64 at', .int .u8 x] w fun e w' => e = .returned (.bool true) ∧ Below w.heap.size w w' := by
  by_cases h : len ≤ 100 ∧ Sp.right s = true
  · exact superoctets_some s at' x w a len cap hA h.1 h.2 hat hx
  · exact superoctets_let s at' x w a len cap hA (Nat.le_trans hA.1 hA.2.1) h
end Go.Proofs.Ytmildaofmgeceaa
