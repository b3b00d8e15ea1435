/-
  The document's answers (layer 12): Right, Need, Charts, Leaves, Fans, Bound.
-/
import Derived.Test.YtmeeikgebkdmiaaGround
import Derived.Test.YtmeeikgebkdmiaaGmNums
import Derived.Test.YtmeeikgebkdmiaaRegs
import Derived.BigQuiet
namespace Go.Proofs.Ytmeeikgebkdmiaa
set_option linter.unusedVariables false
set_option linter.unusedSimpArgs false
open Go.RowKit

/-- the first of six that fails. -/
theorem gm_cases (b s g : Int) (h : Gm.right b s g = false) : b < 16 ∨ (16 ≤ b ∧ 3072 < b) ∨ (16 ≤ b ∧ b ≤ 3072 ∧ s < 1) ∨ (16 ≤ b ∧ b ≤ 3072 ∧ 1 ≤ s ∧ 1792 < s) ∨ (16 ≤ b ∧ b ≤ 3072 ∧ 1 ≤ s ∧ s ≤ 1792 ∧ g < 1) ∨ (16 ≤ b ∧ b ≤ 3072 ∧ 1 ≤ s ∧ s ≤ 1792 ∧ 1 ≤ g ∧ 4294967295 < g) := by
  have := of_decide_eq_false h
  omega

set_option maxRecDepth 100000 in
set_option maxHeartbeats 1000000 in
theorem rgmright_any (b s g : Int) (w : World) : Calls Try.prog 8 #[.agg #[.int .i64 b, .int .i64 s, .int .i64 g]] w fun e w' => e = .returned (.bool (Gm.right b s g)) ∧ Below w.heap.size w w' := by
  have HB : Hid (Below w.heap.size w (w.alloc (.cells #[.int .i64 b, .int .i64 s, .int .i64 g] 23))) := (Below.refl _ _).alloc (Nat.le_refl _) _
  cases hr : Gm.right b s g with
  | true =>
    obtain ⟨⟨h1, h2⟩, ⟨h3, h4⟩, h5, h6⟩ := of_decide_eq_true hr
    clear hr
    go_enter Try.func8, Try.ntmps8
    go_wp2_with fail
    go_ret
    exact ⟨by simp [h6], HB.out⟩
  | false =>
    rcases gm_cases b s g hr with h | ⟨h1, h⟩ | ⟨h1, h2, h⟩ | ⟨h1, h2, h3, h⟩ | ⟨h1, h2, h3, h4, h⟩ | ⟨h1, h2, h3, h4, h5, h⟩
    all_goals
      clear hr
      go_enter Try.func8, Try.ntmps8
      go_wp2_with fail
      go_ret
      exact ⟨by simp <;> omega, HB.out⟩

set_option maxHeartbeats 1000000 in
theorem need_any (n each : Nat) (w : World) (he : 1 ≤ each) (he2 : each ≤ 1000) (hn : n ≤ 10000) :
    Calls Try.prog 23 #[.int .i64 n, .int .i64 each] w fun e w' => e = .returned (.int .i64 (Gm.need n each : Nat)) ∧ w' = w := by
  have HST := hide (fun k (h : n ≤ k * each) (hk : ∀ i, i < k → i * each < n) => Gm.need_stop (n := n) (each := each) (k := k) he h hk)
  go_enter Try.func23, Try.ntmps23
  go_wp2_with fail
  go_loop [5] (fun k => ∃ j : Nat, j ≤ 10000 ∧ k = .int .i64 j ∧ ∀ i, i < j → i * each < n) (fun k => 10001 - (intOf k).toNat)
  case atStart => exact ⟨0, Nat.zero_le _, rfl, fun i hi => absurd hi (Nat.not_lt_zero i)⟩
  case round =>
    obtain ⟨j, hj, rfl, hall⟩ := hrel
    obtain ⟨t, ht⟩ : ∃ t : Nat, j * each = t := ⟨_, rfl⟩
    have htI : (j : Int) * (each : Int) = (t : Int) := by rw [← ht]; exact (Int.natCast_mul j each).symm
    have htb : t ≤ 10000000 := by rw [← ht]; exact Nat.le_trans (Nat.mul_le_mul hj he2) (by decide)
    have hjt : j ≤ t := by rw [← ht]; exact Nat.le_mul_of_pos_right j he
    have HALL := hide hall
    have HT := hide ht
    clear hall ht
    by_cases hlt : t < n
    · have hlI : (t : Int) < (n : Int) := by omega
      have hj1 : j + 1 ≤ 10000 := by omega
      clear hjt
      go_wp2_with fail
      go_round
      case rel =>
        refine ⟨j + 1, hj1, by go_num, fun i hi => ?_⟩
        rcases Nat.lt_succ_iff_lt_or_eq.1 hi with h | rfl
        · exact HALL.out i h
        · rw [HT.out]; exact hlt
      case measure => simp [intOf]; omega
    · have hlI : ¬ (t : Int) < (n : Int) := by omega
      have HE := hide (HST.out j (by rw [HT.out]; omega) HALL.out)
      clear hjt
      go_wp2_with fail
      go_ret
      exact ⟨by rw [HE.out]; rfl, rfl⟩

set_option maxHeartbeats 1000000 in
theorem rleaves_any (n : Nat) (w : World) (hn : n ≤ 1792) : Calls Try.prog 15 #[.int .i64 n] w fun e w' => e = .returned (.int .i64 (Gm.leaves n : Nat)) ∧ w' = w := by
  have HN := hide (need_any n 7 w (by decide) (by decide) (by omega))
  rw [show ((7 : Nat) : Int) = 7 from rfl] at HN
  have HL : Hid (Gm.need n 7 = Gm.leaves n) := rfl
  rw [HL.out] at HN
  go_enter Try.func15, Try.ntmps15
  go_wp2_with fail
  refine HN.out.mono ?_
  rintro e w5 ⟨rfl, hw5⟩
  obtain rfl := hw5.symm
  go_wp2_with fail
  go_ret
  exact ⟨rfl, rfl⟩

set_option maxHeartbeats 1000000 in
theorem rfans_any (n : Nat) (w : World) (hn : n ≤ 1792) : Calls Try.prog 16 #[.int .i64 n] w fun e w' => e = .returned (.int .i64 (Gm.fans n : Nat)) ∧ w' = w := by
  have HLV := hide (rleaves_any n w hn)
  have hll := Gm.leaves_le hn
  have HN := hide (need_any (Gm.leaves n) 16 w (by decide) (by decide) (by omega))
  rw [show ((16 : Nat) : Int) = 16 from rfl] at HN
  have HF : Hid (Gm.fans n = if n = 0 then 0 else Gm.need (Gm.leaves n) 16 + 1) := rfl
  have hnb : Gm.need (Gm.leaves n) 16 ≤ 17 := by unfold Gm.need; omega
  by_cases h0 : n = 0
  · rw [if_pos h0] at HF
    subst h0
    go_enter Try.func16, Try.ntmps16
    go_wp2_with fail
    go_ret
    exact ⟨by rw [HF.out]; rfl, rfl⟩
  · rw [if_neg h0] at HF
    have hz : ((n : Int) == 0) = false := by simp; omega
    generalize Gm.need (Gm.leaves n) 16 = y at *
    generalize Gm.leaves n = x at *
    go_enter Try.func16, Try.ntmps16
    go_wp2_with fail
    refine HLV.out.mono ?_
    rintro e w5 ⟨rfl, hw5⟩
    obtain rfl := hw5.symm
    go_wp2_with fail
    refine HN.out.mono ?_
    rintro e w6 ⟨rfl, hw6⟩
    obtain rfl := hw6.symm
    go_wp2_with fail
    go_ret
    exact ⟨by rw [HF.out]; rfl, rfl⟩

set_option maxHeartbeats 1000000 in
theorem rcharts_any (b s g : Int) (w : World) (hb : 0 ≤ b ∧ b ≤ 3072) : Calls Try.prog 11 #[.agg #[.int .i64 b, .int .i64 s, .int .i64 g]] w fun e w' => e = .returned (.int .i64 (Gm.charts b.toNat : Nat)) ∧ Below w.heap.size w w' := by
  obtain ⟨n, rfl⟩ : ∃ n : Nat, b = n := ⟨b.toNat, by omega⟩
  have HB : Hid (Below w.heap.size w (w.alloc (.cells #[.int .i64 n, .int .i64 s, .int .i64 g] 23))) := (Below.refl _ _).alloc (Nat.le_refl _) _
  have HN := hide (fun W => need_any n 384 W (by decide) (by decide) (by omega))
  rw [show ((384 : Nat) : Int) = 384 from rfl] at HN
  have HC : Hid (Gm.need n 384 = Gm.charts n) := rfl
  rw [HC.out] at HN
  rw [Int.toNat_natCast]
  go_enter Try.func11, Try.ntmps11
  go_wp2_with fail
  refine (HN.out _).mono ?_
  rintro e w5 ⟨rfl, hw5⟩
  obtain rfl := hw5.symm
  go_wp2_with fail
  go_ret
  exact ⟨rfl, HB.out⟩

set_option maxRecDepth 100000 in
set_option maxHeartbeats 2000000 in
theorem rbound_any (b s g e : Int) (w : World) : Calls Try.prog 18 #[.agg #[.int .i64 b, .int .i64 s, .int .i64 g], .int .i64 e] w fun r w' => r = .returned (.int .i64 (Gm.bound b s g e)) ∧ Below w.heap.size w w' := by
  obtain ⟨W, hW⟩ : ∃ W, W = w.alloc (.cells #[.int .i64 b, .int .i64 s, .int .i64 g] 23) := ⟨_, rfl⟩
  have hb0 : Below w.heap.size w W := by rw [hW]; exact (Below.refl _ _).alloc (Nat.le_refl _) _
  have hg0 : W.heap[w.heap.size]? = some (.cells #[.int .i64 b, .int .i64 s, .int .i64 g] 23 (0, 0)) := by rw [hW]; exact heap_alloc_new w _
  have HB0 := hide hb0
  have HG0 := hide hg0
  have HR := hide (rgmright_any b s g W)
  obtain ⟨V, hV⟩ : ∃ V, V = Gm.bound b s g e := ⟨_, rfl⟩
  have HV : Hid (V = if Gm.right b s g = true ∧ 0 ≤ e ∧ e ≤ s then 4 * (e + (Gm.leaves s.toNat : Nat) + (Gm.fans s.toNat : Nat) + (Gm.charts b.toNat : Nat) + 17) + 80 else 0) := hV
  rw [← hV]
  clear hb0 hg0 hV
  cases hr : Gm.right b s g with
  | false =>
    rw [hr] at HR HV
    rw [if_neg (fun h => absurd h.1 (by decide))] at HV
    clear hr
    go_enter Try.func18, Try.ntmps18
    go_wp2_with fail
    rw [← hW]
    refine HR.out.mono ?_
    rintro r w1 ⟨rfl, hb1⟩
    have HB1 := hide (HB0.out.trans (hb1.mono HB0.out.size))
    clear hb1
    go_wp2_with fail
    go_ret
    exact ⟨by rw [HV.out]; rfl, HB1.out⟩
  | true =>
    obtain ⟨⟨h1, h2⟩, ⟨h3, h4⟩, h5, h6⟩ := of_decide_eq_true hr
    rw [hr] at HR HV
    clear hr
    by_cases c1 : e < 0
    · rw [if_neg (fun h => by omega)] at HV
      go_enter Try.func18, Try.ntmps18
      go_wp2_with fail
      rw [← hW]
      refine HR.out.mono ?_
      rintro r w1 ⟨rfl, hb1⟩
      have HB1 := hide (HB0.out.trans (hb1.mono HB0.out.size))
      clear hb1
      go_wp2_with fail
      go_ret
      exact ⟨by rw [HV.out]; rfl, HB1.out⟩
    by_cases c2 : s < e
    · rw [if_neg (fun h => by omega)] at HV
      go_enter Try.func18, Try.ntmps18
      go_wp2_with fail
      rw [← hW]
      refine HR.out.mono ?_
      rintro r w1 ⟨rfl, hb1⟩
      have HB1 := hide (HB0.out.trans (hb1.mono HB0.out.size))
      have hg1 := (hb1.block _ (Array.getElem?_eq_some_iff.1 HG0.out).1).trans HG0.out
      have k1 : w1.cell? ⟨w.heap.size, 1, none⟩ = some (.int .i64 s) := by simp [World.cell?, hg1]
      clear hb1 hg1
      go_wp2_with fail
      go_ret
      exact ⟨by rw [HV.out]; rfl, HB1.out⟩
    rw [if_pos ⟨rfl, by omega, by omega⟩] at HV
    obtain ⟨sn, rfl⟩ : ∃ n : Nat, s = n := ⟨s.toNat, by omega⟩
    rw [Int.toNat_natCast] at HV
    have hsn : sn ≤ 1792 := by omega
    have HLV := hide (fun W => rleaves_any sn W hsn)
    have HFN := hide (fun W => rfans_any sn W hsn)
    have HCH := hide (fun W => rcharts_any b sn g W ⟨by omega, h2⟩)
    have b1 := Gm.leaves_le hsn
    have b2 := Gm.fans_le hsn
    have b3 := Gm.charts_le (b := b.toNat) (by omega)
    generalize Gm.leaves sn = x1 at *
    generalize Gm.fans sn = x2 at *
    generalize Gm.charts b.toNat = x3 at *
    go_enter Try.func18, Try.ntmps18
    go_wp2_with fail
    rw [← hW]
    refine HR.out.mono ?_
    rintro r w1 ⟨rfl, hb1⟩
    have HB1 := hide (HB0.out.trans (hb1.mono HB0.out.size))
    have hg1 := (hb1.block _ (Array.getElem?_eq_some_iff.1 HG0.out).1).trans HG0.out
    have k1 : w1.cell? ⟨w.heap.size, 1, none⟩ = some (.int .i64 sn) := by simp [World.cell?, hg1]
    have HG1 := hide hg1
    clear hb1 hg1
    have q0 : ∀ x : Later w1, x.val.cell? ⟨w.heap.size, 0, none⟩ = some (.int .i64 b) := fun x => by
      have := (x.property.block _ (Array.getElem?_eq_some_iff.1 HG1.out).1).trans HG1.out
      simp [World.cell?, this]
    have q1 : ∀ x : Later w1, x.val.cell? ⟨w.heap.size, 1, none⟩ = some (.int .i64 sn) := fun x => by
      have := (x.property.block _ (Array.getElem?_eq_some_iff.1 HG1.out).1).trans HG1.out
      simp [World.cell?, this]
    have q2 : ∀ x : Later w1, x.val.cell? ⟨w.heap.size, 2, none⟩ = some (.int .i64 g) := fun x => by
      have := (x.property.block _ (Array.getElem?_eq_some_iff.1 HG1.out).1).trans HG1.out
      simp [World.cell?, this]
    have hne := later_some w1
    have HLX := hide (fun x : Later w1 => HLV.out x.val)
    have HFX := hide (fun x : Later w1 => HFN.out x.val)
    have HCX := hide (fun x : Later w1 => HCH.out x.val)
    have s1 : IntKind.i64.wrap (e + (x1 : Int)) = e + (x1 : Int) := by rw [IntKind.wrap_i64]; omega
    have s2 : IntKind.i64.wrap (e + (x1 : Int) + (x2 : Int)) = e + (x1 : Int) + (x2 : Int) := by rw [IntKind.wrap_i64]; omega
    have s3 : IntKind.i64.wrap (e + (x1 : Int) + (x2 : Int) + (x3 : Int)) = e + (x1 : Int) + (x2 : Int) + (x3 : Int) := by rw [IntKind.wrap_i64]; omega
    have s4 : IntKind.i64.wrap (e + (x1 : Int) + (x2 : Int) + (x3 : Int) + 17) = e + (x1 : Int) + (x2 : Int) + (x3 : Int) + 17 := by rw [IntKind.wrap_i64]; omega
    have s5 : IntKind.i64.wrap (4 * (e + (x1 : Int) + (x2 : Int) + (x3 : Int) + 17)) = 4 * (e + (x1 : Int) + (x2 : Int) + (x3 : Int) + 17) := by rw [IntKind.wrap_i64]; omega
    have s6 : IntKind.i64.wrap (4 * (e + (x1 : Int) + (x2 : Int) + (x3 : Int) + 17) + 80) = 4 * (e + (x1 : Int) + (x2 : Int) + (x3 : Int) + 17) + 80 := by rw [IntKind.wrap_i64]; omega
    go_wp2_with fail
    refine wp_region_later (by kernel_rfl) (by kernel_rfl) ?_
    repeat (go_big_quiet_step (first | rfl | (go_at_call 15; refine calls_later_same (HLX.out _)) | (go_at_call 16; refine calls_later_same (HFX.out _)) | (go_at_call 11; refine calls_later (HCX.out _))))
    refine wpQuiet_nil ?_
    intro w9 hw9
    obtain ⟨⟨w9', hb9⟩, rfl⟩ := hw9
    have HB9 := hide (HB1.out.trans (hb9.mono HB1.out.size))
    clear hb9
    go_wp2_with fail
    go_ret
    exact ⟨by rw [HV.out]; rfl, HB9.out⟩
end Go.Proofs.Ytmeeikgebkdmiaa
