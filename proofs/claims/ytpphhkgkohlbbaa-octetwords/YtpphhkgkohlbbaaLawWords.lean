/-
  The walk of the statement on words and octets.
-/
import Derived.Test.YtpphhkgkohlbbaaLawTwice
import Derived.Test.YtpphhkgkohlbbaaRegs
namespace Go.Proofs.Ytpphhkgkohlbbaa
set_option linter.unusedVariables false
set_option linter.unusedSimpArgs false
open Go.RowKit

set_option maxHeartbeats 1000000 in
theorem words_walk_great (a c : Option Addr) (len cap m mcap : Nat) (w : World) (hl : ¬ len ≤ 1000 ∨ ¬ m ≤ 100) (hm : len ≤ maxLen) (hm2 : m ≤ maxLen) :
    Calls Try.prog 6 #[.slice a len cap, .slice c m mcap] w fun e w' => e = .returned (.bool true) ∧ Below w.heap.size w w' := by
  unfold maxLen at hm hm2
  have hl' : (1000 : Int) < (len : Int) ∨ (¬ (1000 : Int) < (len : Int) ∧ (100 : Int) < (m : Int)) := by omega
  clear hl
  rcases hl' with h1 | ⟨h1, h2⟩
  all_goals
    go_enter Try.func6, Try.ntmps6
    go_wp2_with fail
    refine (awake_any w).mono ?_
    rintro e w1 ⟨rfl, hb1⟩
    go_wp2_with fail
    refine (awake_any w1).mono ?_
    rintro e w2 ⟨rfl, hb2⟩
    go_wp2_with fail
    go_ret
    exact ⟨rfl, hb1.trans (hb2.mono hb1.size)⟩

theorem oct_at (ws : List Int) (m k : Nat) (hk : k < m) (hm : m ≤ ws.length) : ((octTo ws m).drop (8 * k)).take 8 = Nums.lay (ws.getD k 0) 8 := by
  have hkw : k < ws.length := by omega
  obtain ⟨R, e0⟩ : ∃ R, ws.take m = ws.take (k + 1) ++ R := ⟨(ws.take m).drop (k + 1), by
    have h := List.take_append_drop (k + 1) (ws.take m)
    rw [List.take_take, Nat.min_eq_left (by omega)] at h
    exact h.symm⟩
  have e1 : octTo ws m = octTo ws k ++ (Nums.lay ws[k] 8 ++ R.flatMap fun v => Nums.lay v 8) := by
    unfold octTo
    rw [e0, List.flatMap_append, take_snoc ws k hkw, List.flatMap_append, List.append_assoc]
    simp
  rw [e1, List.drop_append, List.drop_of_length_le (by rw [length_octTo ws k (by omega)]; exact Nat.le_refl _), length_octTo ws k (by omega), Nat.sub_self, List.nil_append, List.drop_zero, List.take_append, Nums.length_lay, Nat.sub_self, List.take_zero, List.append_nil, List.take_of_length_le (by rw [Nums.length_lay]; exact Nat.le_refl _)]
  rw [List.getD_eq_getElem?_getD, List.getElem?_eq_getElem hkw]
  rfl

theorem words_oct (ws : List Int) (hw : ∀ v ∈ ws, (Lit.int .u64 v).wf = true) : wordsTo (octTo ws ws.length) ws.length = ws := by
  apply List.ext_getElem
  · simp [length_wordsTo]
  · intro k h1 h2
    have hb := bd_u64 (hw _ (List.getElem_mem h2))
    simp only [wordsTo, List.getElem_map, List.getElem_range]
    rw [oct_at ws _ k h2 (Nat.le_refl _), List.getD_eq_getElem?_getD, List.getElem?_eq_getElem h2]
    exact rd_lay8 hb.1 hb.2

theorem oct_words (zs : List Int) (hz : Nums.Bytes zs) : ∀ n, 8 * n ≤ zs.length → (wordsTo zs n).flatMap (fun v => Nums.lay v 8) = zs.take (8 * n)
  | 0, _ => by simp [wordsTo]
  | n + 1, h => by
    have ih := oct_words zs hz n (by omega)
    have e : wordsTo zs (n + 1) = wordsTo zs n ++ [Nums.rd ((zs.drop (8 * n)).take 8)] := by simp [wordsTo, List.range_succ]
    have hl : ((zs.drop (8 * n)).take 8).length = 8 := by simp; omega
    have hr := Nums.lay_rd ((zs.drop (8 * n)).take 8) (Nums.bytes_take (Nums.bytes_drop hz _) _)
    rw [hl] at hr
    rw [e, List.flatMap_append, ih]
    simp only [List.flatMap_cons, List.flatMap_nil, List.append_nil, hr]
    rw [show 8 * (n + 1) = 8 * n + 8 by omega, List.take_add]

theorem wf_words (zs : List Int) (hz : Nums.Bytes zs) (n : Nat) : ∀ v ∈ wordsTo zs n, (Lit.int .u64 v).wf = true := fun v hv => by
  simp only [wordsTo, List.mem_map, List.mem_range] at hv
  obtain ⟨i, _, rfl⟩ := hv
  have hb := Nums.rd_bounds _ (Nums.bytes_take (Nums.bytes_drop hz (8 * i)) 8)
  have hq : (256 : Int) ^ ((zs.drop (8 * i)).take 8).length ≤ 256 ^ 8 := by
    rw [show (256 : Int) ^ ((zs.drop (8 * i)).take 8).length = ((256 ^ ((zs.drop (8 * i)).take 8).length : Nat) : Int) from (Int.natCast_pow 256 _).symm, show (256 : Int) ^ 8 = ((256 ^ 8 : Nat) : Int) from rfl]
    exact Int.ofNat_le.2 (Nat.pow_le_pow_right (by decide) (by simp; omega))
  have h8 : (256 : Int) ^ 8 = 18446744073709551616 := rfl
  simp only [Lit.wf, IntKind.min, IntKind.max, IntKind.signed, IntKind.bits]
  simp
  omega

theorem octTo_all (ws : List Int) : octTo ws ws.length = ws.flatMap (fun v => Nums.lay v 8) := by
  unfold octTo
  rw [List.take_of_length_le (Nat.le_refl _)]

theorem reflay_eight (v : Int) (w : World) (hv : (Lit.int .u64 v).wf = true) :
    Calls Try.prog 12 #[.int .u64 v, .int .i64 8] w fun e w' => e = .returned (.string (strOfNums (Nums.lay v 8))) ∧ Below w.heap.size w w' := by
  have hb := bd_u64 hv
  have h := reflay_any v 8 w hb.1 hb.2 (by omega)
  rw [show ((8 : Nat) : Int) = 8 from rfl] at h
  exact h

theorem Row.cellAt {k : IntKind} {w : World} {b off len : Nat} {zs : List Int} (h : Row k w (some ⟨b, off, none⟩) len zs) (j : Nat) (hj : j < len) : w.cell? ⟨b, off + j, none⟩ = some (.int k (zs.getD j 0)) := by
  obtain ⟨_, h0 | ⟨b', off', he, _, hc⟩⟩ := h
  · omega
  · simp only [Option.some.injEq, Addr.mk.injEq, and_true] at he
    obtain ⟨rfl, rfl⟩ := he
    exact hc j hj

theorem Row.headRow {k : IntKind} {w : World} {a : Option Addr} {len : Nat} {zs : List Int} (h : Row k w a len zs) (p : Nat) (hp : p ≤ len) : Row k w a p (zs.take p) := by
  obtain ⟨hl, h0 | ⟨b, off, rfl, hb, hc⟩⟩ := h
  · exact ⟨by simp; omega, .inl (by omega)⟩
  · refine ⟨by simp; omega, .inr ⟨b, off, rfl, hb, fun i hi => ?_⟩⟩
    rw [hc i (by omega)]
    simp [List.getElem?_take, hi]

set_option maxHeartbeats 2000000 in
theorem words_walk_in (a c : Option Addr) (len cap m mcap : Nat) (zs ws : List Int) (w : World) (hA : Arg .u8 w a len cap zs) (hC : Arg .u64 w c m mcap ws) (hl : len ≤ 1000) (hm : m ≤ 100) :
    Calls Try.prog 6 #[.slice a len cap, .slice c m mcap] w fun e w' => e = .returned (.bool true) ∧ Below w.heap.size w w' := by
  have h1 : ¬ (1000 : Int) < (len : Int) := by omega
  have h2 : ¬ (100 : Int) < (m : Int) := by omega
  have hlc := hA.1
  have HA := hide hA
  have HC := hide hC
  clear hA hC
  go_enter Try.func6, Try.ntmps6
  go_wp2_with fail
  refine (awake_any w).mono ?_
  rintro e w1 ⟨rfl, hb1⟩
  have HB1 := hide hb1
  have HA1 := hide (HA.out.below hb1)
  have HC1 := hide (HC.out.below hb1)
  clear hb1 HA HC
  go_wp2_with fail
  refine (words_any a len cap zs w1 (by omega) hlc HA1.out.2.2.1 HA1.out.bytes).mono ?_
  rintro e w2 ⟨rfl, hw2⟩
  have HG2 : Hid (w2.heap[w1.heap.size]? = some (.cells (blk .u64 (wordsTo zs (len / 8))) 22 (0, 0))) := by rw [hw2]; exact heap_alloc_new w1 _
  have HB2 : Hid (Below w1.heap.size w1 w2) := by rw [hw2]; exact (Below.refl _ _).alloc (Nat.le_refl _) _
  clear hw2
  have hq : ((len / 8 : Nat) : Int) = (len : Int) / 8 := by omega
  go_wp2_with fail
  clear hq
  have HZ := hide HA1.out.bytes
  have HLZ := hide HA1.out.2.2.1.1
  have HR2 := hide (HA1.out.2.2.1.below HB2.out)
  go_loopw [6] (fun i wr => ∃ k : Nat, k ≤ len / 8 ∧ i = .int .i64 k ∧ Below w2.heap.size w2 wr) (fun i _ => len / 8 - (intOf i).toNat)
  case atStart => exact ⟨0, Nat.zero_le _, rfl, Below.refl _ _⟩
  case round =>
    obtain ⟨k, hk, rfl, hbr⟩ := hrel
    have HBR := hide hbr
    clear hbr
    by_cases hlt : k < len / 8
    · have hi : (k : Int) < (len : Int) / 8 := by omega
      have hk8 : 8 * k + 8 ≤ len := by omega
      have hc : wr.cell? ⟨w1.heap.size, k, none⟩ = some (.int .u64 (Nums.rd ((zs.drop (8 * k)).take 8))) := by
        have hrow := (row_of_block HG2.out (length_wordsTo zs (len / 8))).below HBR.out
        obtain ⟨_, h0 | ⟨b, off, he, _, hcc⟩⟩ := hrow
        · omega
        · simp only [Option.some.injEq, Addr.mk.injEq, and_true] at he
          obtain ⟨rfl, rfl⟩ := he
          have := hcc k hlt
          rw [Nat.zero_add] at this
          rw [this]
          simp [wordsTo, hlt]
      obtain ⟨b, off, rfl, hcut⟩ := (HR2.out.below HBR.out).cut (8 * k) 8 hk8 (by omega)
      have hcv := fun nq => conv_bytes (cap - 8 * k) (hcut.below (below_drewN' wr nq))
      have HNU := hide (fun W => number_any ((zs.drop (8 * k)).take 8) W (by unfold maxLen; simp; omega) (Nums.bytes_take (Nums.bytes_drop HZ.out _) _))
      rw [List.take_take, Nat.min_self] at HNU
      generalize strOfNums ((zs.drop (8 * k)).take 8) = S at *
      generalize Nums.rd ((zs.drop (8 * k)).take 8) = y at *
      clear hcut
      have hne : ¬ cap = 8 * k := by omega
      have hj1 : (8 : Int) * (k : Int) + 8 ≤ (cap : Int) := by omega
      go_wp2_with fail
      go_quiet ((go_at_call 11; refine Calls.quiet_of_same (HNU.out _)))
      clear hcv hc
      go_wp2_with fail
      go_roundw
      case rel => exact ⟨k + 1, by omega, by go_num, HBR.out.trans ((below_drewN' wr nq).mono HBR.out.size)⟩
      case measure => simp [intOf]; omega
    · have hi : ¬ (k : Int) < (len : Int) / 8 := by omega
      clear hlt
      have hke : k = len / 8 := by omega
      subst hke
      go_wp2_with fail
      have HBW := hide (HB1.out.trans ((HB2.out.trans (HBR.out.mono HB2.out.size)).mono HB1.out.size))
      have HCR := hide ((HC1.out.below HB2.out).below HBR.out)
      have HRB := hide (HR2.out.below HBR.out)
      have HRL := hide ((row_of_block HG2.out (length_wordsTo zs (len / 8))).below HBR.out)
      clear HBR HB2 HB1 HC1 HR2 HG2 HA1
      refine (octets_any c m mcap ws wr (by omega) HCR.out.2.2.1 HCR.out.2.2.2.1).mono ?_
      rintro e w3 ⟨rfl, hb3, hg3⟩
      have hwl := HCR.out.2.2.1.1
      have hol := length_octTo ws m (by omega)
      have HR3 := hide (row_of_block hg3 hol)
      have HB3 := hide hb3
      have HOB : Hid (Nums.Bytes (octTo ws m)) := by
        intro z hz
        simp only [octTo, List.mem_flatMap] at hz
        obtain ⟨v, _, hv⟩ := hz
        exact Nums.bytes_lay _ _ z hv
      have HWL := hide hwl
      clear hb3 hg3 hwl hol
      go_wp2_with fail
      have hwd := words_any (some ⟨wr.heap.size, 0, none⟩) (8 * m) (8 * m) (octTo ws m) w3 (by omega) (Nat.le_refl _) HR3.out HOB.out
      have hmw : wordsTo (octTo ws m) m = ws := by
        have h := words_oct ws HCR.out.2.2.2.1
        rw [HWL.out] at h
        exact h
      rw [Nat.mul_div_cancel_left m (by decide), hmw] at hwd
      refine hwd.mono ?_
      clear hwd hmw
      rintro e w4 ⟨rfl, hw4⟩
      have HG4 : Hid (w4.heap[w3.heap.size]? = some (.cells (blk .u64 ws) 22 (0, 0))) := by rw [hw4]; exact heap_alloc_new w3 _
      have HB4 : Hid (Below w3.heap.size w3 w4) := by rw [hw4]; exact (Below.refl _ _).alloc (Nat.le_refl _) _
      clear hw4
      go_wp2_with fail
      have HR34 := hide (HR3.out.below HB4.out)
      have HR44 := hide (row_of_block HG4.out HWL.out)
      have HC4 := hide ((HCR.out.below HB3.out).below HB4.out)
      have HRB4 := hide ((HRB.out.below HB3.out).below HB4.out)
      have HRL4 := hide ((HRL.out.below HB3.out).below HB4.out)
      have HBW4 := hide ((HBW.out.trans (HB3.out.mono HBW.out.size)).trans (HB4.out.mono (Nat.le_trans HBW.out.size HB3.out.size)))
      clear HB3 HB4 HCR HRB HRL HBW HR3 HG4 HOB
      obtain ⟨wq, hwq⟩ : ∃ x, x = wr := ⟨_, rfl⟩
      subst hwq
      go_loopw [9] (fun i wv => ∃ j : Nat, j ≤ m ∧ i = .int .i64 j ∧ Below w4.heap.size w4 wv) (fun i _ => m - (intOf i).toNat)
      case atStart => exact ⟨0, Nat.zero_le _, rfl, Below.refl _ _⟩
      case round =>
        obtain ⟨j, hj, rfl, hbv⟩ := hrel
        have HBV := hide hbv
        clear hbv
        by_cases hlt : j < m
        · have hi1 : (j : Int) < (m : Int) := by omega
          obtain ⟨cb, coff, rfl⟩ : ∃ cb coff, c = some ⟨cb, coff, none⟩ := by
            rcases HC4.out.2.2.2.2 with h | h
            · have := HC4.out.1; omega
            · exact h
          have hjw : j < ws.length := by have := HWL.out; omega
          have HWF := hide (HC4.out.2.2.2.1 (ws.getD j 0) (by rw [List.getD_eq_getElem?_getD, List.getElem?_eq_getElem hjw]; exact List.getElem_mem hjw))
          have hc1 := fun x : Later wr => (((HR44.out.below HBV.out).below x.property)).cellAt j hlt
          have hc2 := fun x : Later wr => (((HC4.out.2.2.1.below HBV.out).below x.property)).cellAt j hlt
          have hcut := (HR34.out.below HBV.out).cut (8 * j) 8 (by omega) (by omega)
          obtain ⟨gb, goff, he, hcut⟩ := hcut
          simp only [Option.some.injEq, Addr.mk.injEq, and_true] at he
          obtain ⟨rfl, rfl⟩ := he
          rw [oct_at ws m j hlt (by have := HWL.out; omega)] at hcut
          have hcv := fun x : Later wr => conv_bytes (8 * m - 8 * j) (hcut.below x.property)
          clear hcut
          simp only [Nat.zero_add] at hc1 hcv
          have HRF := hide (fun W => reflay_eight (ws.getD j 0) W HWF.out)
          generalize ws.getD j 0 = y at *
          generalize strOfNums (Nums.lay y 8) = S at *
          have hwr1 : IntKind.i64.wrap (8 * (j : Int)) = 8 * (j : Int) := by rw [IntKind.wrap_i64]; omega
          have hwr2 : IntKind.i64.wrap (8 * (j : Int) + 8) = 8 * (j : Int) + 8 := by rw [IntKind.wrap_i64]; omega
          have htn1 : (8 * (j : Int)).toNat = 8 * j := by omega
          have htn2 : (8 * (j : Int) + 8).toNat = 8 * j + 8 := by omega
          have hk0 : (0 : Int) ≤ 8 * (j : Int) := by omega
          have hk1 : (8 : Int) * (j : Int) ≤ 8 * (j : Int) + 8 := by omega
          have hk2 : (8 : Int) * (j : Int) + 8 ≤ 8 * (m : Int) := by omega
          have hk3 : ¬ m = j := by omega
          have hk4 : 8 * j + 8 ≤ 8 * m := by omega
          have hk5 : (0 : Int) ≤ (j : Int) := by omega
          have hk6 : ¬ 8 * m = 8 * j := by omega
          have hne := later_some wr
          go_wp2_with fail
          refine wp_region_later (by kernel_rfl) (by kernel_rfl) ?_
          repeat (quiet_step ((go_at_call 12; refine calls_later (HRF.out _))))
          refine wpQuiet_nil ?_
          intro w9 hw9
          obtain ⟨⟨w9', hb9⟩, rfl⟩ := hw9
          clear hc1 hc2 hcv hwr1 hwr2 htn1 htn2
          go_wp2_with fail
          go_roundw
          case rel => exact ⟨j + 1, by omega, by go_num, HBV.out.trans (hb9.mono HBV.out.size)⟩
          case measure => simp [intOf]; omega
        · have hi1 : ¬ (j : Int) < (m : Int) := by omega
          clear hlt
          go_wp2_with fail
          have hd : Below wr.heap.size wr wr.drew := (Below.refl _ _).drew
          have hRL := (HRL4.out.below HBV.out).below hd
          have hRB := ((HRB4.out.below HBV.out).below hd).headRow (8 * (len / 8)) (by omega)
          have hoc := octets_any (some ⟨w1.heap.size, 0, none⟩) (len / 8) (len / 8) (wordsTo zs (len / 8)) wr.drew (by omega) hRL (wf_words zs HZ.out _)
          have hall : octTo (wordsTo zs (len / 8)) (len / 8) = zs.take (8 * (len / 8)) := by
            have h1 := octTo_all (wordsTo zs (len / 8))
            rw [length_wordsTo] at h1
            rw [h1]
            exact oct_words zs HZ.out _ (by have := HLZ.out; omega)
          rw [hall] at hoc
          have HOC := hide hoc
          have hcv1 := conv_bytes cap hRB
          have HCV := hide (fun W (h : Below wr.drew.heap.size wr.drew W) => conv_bytes cap (hRB.below h))
          have HTL : Hid ((zs.take (8 * (len / 8))).length = 8 * (len / 8)) := by
            show _ = _
            have := HLZ.out
            simp
            omega
          have HCO := hide (fun (W : World) (h : W.heap[wr.heap.size]? = some (.cells (blk .u8 (zs.take (8 * (len / 8)))) 5 (0, 0))) => conv_bytes (8 * (len / 8)) (row_of_block h HTL.out))
          clear hoc hall hRL hRB
          generalize strOfNums (zs.take (8 * (len / 8))) = S at *
          have hwr : IntKind.i64.wrap (8 * ((len : Int) / 8)) = 8 * ((len : Int) / 8) := by rw [IntKind.wrap_i64]; omega
          have htn : (8 * ((len : Int) / 8)).toNat = 8 * (len / 8) := by omega
          have hk0 : (0 : Int) ≤ 8 * ((len : Int) / 8) := by omega
          have hk1 : (8 : Int) * ((len : Int) / 8) ≤ (cap : Int) := by omega
          go_region_with ((go_at_call 18; refine HOC.out.mono ?_; rintro e w6 ⟨rfl, hb6, hg6⟩; have hc6 := HCO.out w6 hg6; have hd6 := HCV.out w6 hb6; have HB6 := hide hb6; clear hb6 hg6))
          all_goals
            clear hcv1 hwr htn hc6 hd6
            go_wp2_with fail
            go_ret
            exact ⟨rfl, (HBW4.out.trans (HBV.out.mono HBW4.out.size)).trans ((hd.trans (HB6.out.mono hd.size)).mono (Nat.le_trans HBW4.out.size HBV.out.size))⟩

theorem words_walk (a c : Option Addr) (len cap m mcap : Nat) (zs ws : List Int) (w : World) (hA : Arg .u8 w a len cap zs) (hC : Arg .u64 w c m mcap ws) :
    Calls Try.prog 6 #[.slice a len cap, .slice c m mcap] w fun e w' => e = .returned (.bool true) ∧ Below w.heap.size w w' := by
  by_cases h : ¬ len ≤ 1000 ∨ ¬ m ≤ 100
  · exact words_walk_great a c len cap m mcap w h (Nat.le_trans hA.1 hA.2.1) (Nat.le_trans hC.1 hC.2.1)
  · exact words_walk_in a c len cap m mcap zs ws w hA hC (by omega) (by omega)
end Go.Proofs.Ytpphhkgkohlbbaa
