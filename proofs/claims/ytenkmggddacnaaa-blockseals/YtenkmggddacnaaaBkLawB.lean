/-
  Layer 7's statements: BlockSeals, BlockOpens.
-/
import Derived.Test.YtenkmggddacnaaaBkLawA
namespace Go.Proofs.Ytenkmggddacnaaa
set_option linter.unusedVariables false
set_option linter.unusedSimpArgs false
open Go.RowKit

set_option maxRecDepth 100000 in
set_option maxHeartbeats 1000000 in
theorem seals_great {w : World} (k t : Int) {a : Option Addr} {len cap : Nat} (h : 200 < len) :
    Calls Try.prog 3 #[.int .i64 k, .int .i64 t, .slice a len cap] w fun e w' => e = .returned (.bool true) ∧ Below w.heap.size w w' := by
  have HAW := hide (fun W => bawake_any W)
  have hI : (200 : Int) < (len : Int) := by omega
  go_enter Try.func3, Try.ntmps3
  go_wp2_with fail
  refine (HAW.out _).mono ?_
  rintro e w1 ⟨rfl, hb1⟩
  have HB1 := hide hb1
  clear hb1
  go_wp2_with fail
  refine (HAW.out _).mono ?_
  rintro e w2 ⟨rfl, hb2⟩
  have HB2 := hide (HB1.out.trans (hb2.mono HB1.out.size))
  clear hb2
  go_wp2_with fail
  go_ret
  exact ⟨rfl, HB2.out⟩

set_option maxRecDepth 100000 in
set_option maxHeartbeats 2000000 in
theorem seals_no {w : World} (k t : Int) (hk : (Lit.int .i64 k).wf = true) (ht : (Lit.int .i64 t).wf = true) {a : Option Addr} {len cap : Nat} (h : len ≤ 200) (hn : k < 1 ∨ 255 < k ∨ t < 0 ∨ 255 < t ∨ 56 < len) :
    Calls Try.prog 3 #[.int .i64 k, .int .i64 t, .slice a len cap] w fun e w' => e = .returned (.bool true) ∧ Below w.heap.size w w' := by
  have HAW := hide (fun W => bawake_any W)
  have HS := hide (fun W => bseal_no W a len cap k t hk ht (by omega) hn)
  have hI : ¬ (200 : Int) < (len : Int) := by omega
  have hcase : (k < 1) ∨ (¬ k < 1 ∧ 255 < k) ∨ (¬ k < 1 ∧ ¬ 255 < k ∧ t < 0) ∨ (¬ k < 1 ∧ ¬ 255 < k ∧ ¬ t < 0 ∧ 255 < t) ∨ (¬ k < 1 ∧ ¬ 255 < k ∧ ¬ t < 0 ∧ ¬ 255 < t ∧ (56 : Int) < (len : Int)) := by omega
  clear hn hk ht
  rcases hcase with h1 | ⟨h1, h2⟩ | ⟨h1, h2, h3⟩ | ⟨h1, h2, h3, h4⟩ | ⟨h1, h2, h3, h4, h5⟩
  all_goals
    go_enter Try.func3, Try.ntmps3
    go_wp2_with fail
    refine (HAW.out _).mono ?_
    rintro e w1 ⟨rfl, hb1⟩
    have HB1 := hide hb1
    clear hb1
    go_wp2_with fail
    refine (HS.out _).mono ?_
    rintro e w2 ⟨rfl, hb2⟩
    have HB2 := hide (HB1.out.trans (hb2.mono HB1.out.size))
    clear hb2
    go_wp2_with fail
    go_ret
    exact ⟨rfl, HB2.out⟩

set_option maxRecDepth 100000 in
set_option maxHeartbeats 4000000 in
theorem seals_yes {w : World} (k t : Int) (hk : 1 ≤ k ∧ k ≤ 255) (ht : 0 ≤ t ∧ t ≤ 255) {a : Option Addr} {len cap : Nat} {zs : List Int} (hA : Arg .u8 w a len cap zs) (h : len ≤ 56) :
    Calls Try.prog 3 #[.int .i64 k, .int .i64 t, .slice a len cap] w fun e w' => e = .returned (.bool true) ∧ Below w.heap.size w w' := by
  have HAW := hide (fun W => bawake_any W)
  have HA := hide hA
  have hzl : zs.length = len := hA.2.2.1.1
  have HSB := hide (Bk.shut_bytes (k := k) (t := t) ⟨by omega, hk.2⟩ ht hA.bytes)
  have HSL := hide (Bk.shut_length (k := k) (t := t) (body := zs) (by omega))
  have HIS := hide (Bk.shut_isB (k := k) (t := t) (body := zs) (by omega) (by omega))
  have HPT := hide (Bk.shut_parts (k := k) (t := t) (body := zs))
  have HRS := hide (fun W => rseal_any k t zs W ⟨by omega, hk.2⟩ ht hA.bytes (by omega))
  have HFI := hide (fun W => fill_any zs 56 W (by omega) (by decide))
  have k1 : ¬ k < 1 := by omega
  have k2 : ¬ 255 < k := by omega
  have t1 : ¬ t < 0 := by omega
  have t2 : ¬ 255 < t := by omega
  have hI : ¬ (200 : Int) < (len : Int) := by omega
  have hI2 : ¬ (56 : Int) < (len : Int) := by omega
  clear hA
  go_enter Try.func3, Try.ntmps3
  go_wp2_with fail
  refine (HAW.out _).mono ?_
  rintro e w1 ⟨rfl, hb1⟩
  have HB1 := hide hb1
  clear hb1
  go_wp2_with fail
  refine (bseal_yes k t hk ht (HA.out.below HB1.out) h).mono ?_
  rintro e w2 ⟨g, c, tail, rfl, hc, hcm, hg, hblk, hb2⟩
  have HB2 := hide (HB1.out.trans (hb2.mono HB1.out.size))
  have HA2 := hide (arg_tail hblk HSB.out HSL.out hc hcm)
  clear hblk hb2 hg
  go_wp2_with fail
  refine (bopen_yes HA2.out (by decide) HIS.out).mono ?_
  rintro e w3 ⟨a', c', rfl, hA3, hb3⟩
  rw [HPT.out.2.2] at hA3
  rw [HPT.out.1, HPT.out.2.1]
  have HB3 := hide (HB2.out.trans (hb3.mono HB2.out.size))
  have hc1 := fun x : Later w3 => conv_bytes c ((HA2.out.below hb3).below x.property).2.2.1
  have hc2 := fun x : Later w3 => conv_bytes cap ((HA.out.below HB3.out).below x.property).2.2.1
  have hc3 := fun x : Later w3 => conv_bytes c' (hA3.below x.property).2.2.1
  have hne := later_some w3
  clear hA3 hb3
  generalize strOfNums (Bk.shut k t zs) = Y at *
  generalize strOfNums (Bk.fill zs 56) = F at *
  generalize strOfNums zs = T at *
  go_wp2_with fail
  refine wp_region_later (by kernel_rfl) (by kernel_rfl) ?_
  repeat (go_big_quiet_step (first | (go_at_call 10; refine calls_later (HRS.out _)) | (go_at_call 11; refine calls_later (HFI.out _))))
  refine wpQuiet_nil ?_
  intro w9 hw9
  obtain ⟨⟨w9', hb9⟩, rfl⟩ := hw9
  clear hc1 hc2 hc3 hne
  have HB9 := hide (HB3.out.trans (hb9.mono HB3.out.size))
  clear hb9
  go_wp2_with fail
  go_ret
  exact ⟨rfl, HB9.out⟩

theorem blockseals_own {w : World} {k t : Int} (hk : (Lit.int .i64 k).wf = true) (ht : (Lit.int .i64 t).wf = true) {a : Option Addr} {len cap : Nat} {zs : List Int} (hA : Arg .u8 w a len cap zs) :
    Calls Try.prog 3 #[.int .i64 k, .int .i64 t, .slice a len cap] w fun e w' => e = .returned (.bool true) ∧ Below w.heap.size w w' := by
  by_cases h : 200 < len
  · exact seals_great k t h
  · by_cases hn : k < 1 ∨ 255 < k ∨ t < 0 ∨ 255 < t ∨ 56 < len
    · exact seals_no k t hk ht (by omega) hn
    · exact seals_yes k t (by omega) (by omega) hA (by omega)

set_option maxRecDepth 100000 in
set_option maxHeartbeats 1000000 in
theorem opens_great {w : World} {a : Option Addr} {len cap : Nat} (h : 200 < len) :
    Calls Try.prog 4 #[.slice a len cap] w fun e w' => e = .returned (.bool true) ∧ Below w.heap.size w w' := by
  have HAW := hide (fun W => bawake_any W)
  have hI : (200 : Int) < (len : Int) := by omega
  go_enter Try.func4, Try.ntmps4
  go_wp2_with fail
  refine (HAW.out _).mono ?_
  rintro e w1 ⟨rfl, hb1⟩
  have HB1 := hide hb1
  clear hb1
  go_wp2_with fail
  refine (HAW.out _).mono ?_
  rintro e w2 ⟨rfl, hb2⟩
  have HB2 := hide (HB1.out.trans (hb2.mono HB1.out.size))
  clear hb2
  go_wp2_with fail
  go_ret
  exact ⟨rfl, HB2.out⟩

set_option maxRecDepth 100000 in
set_option maxHeartbeats 4000000 in
theorem opens_any {w : World} {a : Option Addr} {len cap : Nat} {zs : List Int} (hA : Arg .u8 w a len cap zs) (h : len ≤ 200) :
    Calls Try.prog 4 #[.slice a len cap] w fun e w' => e = .returned (.bool true) ∧ Below w.heap.size w w' := by
  have HAW := hide (fun W => bawake_any W)
  have HA := hide hA
  have HZB := hide hA.bytes
  have hI : ¬ (200 : Int) < (len : Int) := by omega
  clear hA
  cases hB : Bk.isB zs with
  | false =>
    go_enter Try.func4, Try.ntmps4
    go_wp2_with fail
    refine (HAW.out _).mono ?_
    rintro e w1 ⟨rfl, hb1⟩
    have HB1 := hide hb1
    clear hb1
    go_wp2_with fail
    refine (bopen_no (HA.out.below HB1.out) (by omega) hB).mono ?_
    rintro e w2 ⟨rfl, hb2⟩
    have HB2 := hide (HB1.out.trans (hb2.mono HB1.out.size))
    clear hb2
    have hro := ropen_any (HA.out.below HB2.out) (by omega)
    rw [hB, if_neg (by decide)] at hro
    have HRO := hide hro
    clear hro
    go_wp2_with fail
    refine HRO.out.mono ?_
    rintro e w3 ⟨rfl, hb3⟩
    have HB3 := hide (HB2.out.trans (hb3.mono HB2.out.size))
    clear hb3
    have hki := bkind_any (HA.out.below HB3.out) (by omega)
    rw [hB, if_neg (by decide)] at hki
    have HKI := hide hki
    have hcv := conv_bytes (w := w3) (a := none) (len := 0) (zs := []) 0 ⟨rfl, .inl rfl⟩
    rw [str_nil] at hcv
    clear hki
    go_wp2_with fail
    refine HKI.out.mono ?_
    rintro e w4 ⟨rfl, hb4⟩
    have HB4 := hide (HB3.out.trans (hb4.mono HB3.out.size))
    clear hb4
    go_wp2_with fail
    go_ret
    exact ⟨rfl, HB4.out⟩
  | true =>
    obtain ⟨hk, ht⟩ := isB_bounds HZB.out hB
    have HSM := hide (Bk.isB_same hB)
    have HSB := hide HZB.out
    have hL64 := (Bk.isB_sum hB).1
    have HL64 := hide hL64
    have HBO := hide (fun W (hb : Below w.heap.size w W) => bopen_yes (HA.out.below hb) (by omega) hB)
    have HRO := hide (fun W (hb : Below w.heap.size w W) => ropen_any (HA.out.below hb) (by omega))
    have HKI := hide (fun W (hb : Below w.heap.size w W) => bkind_any (HA.out.below hb) (by omega))
    simp only [hB, if_true] at HRO HKI
    have HSE := hide (fun (W : World) (a' : Option Addr) (c' : Nat) (hA' : Arg .u8 W a' 56 c' (zs.drop 8)) => bseal_yes (zs.getD 4 0) (zs.getD 5 0) hk ht hA' (by decide))
    rw [HSM.out] at HSE
    obtain ⟨k, hkk⟩ : ∃ k, zs.getD 4 0 = k := ⟨_, rfl⟩
    obtain ⟨t, htt⟩ : ∃ t, zs.getD 5 0 = t := ⟨_, rfl⟩
    obtain ⟨bd, hbd⟩ : ∃ bd, zs.drop 8 = bd := ⟨_, rfl⟩
    rw [hkk, htt, hbd] at HBO HRO HSE
    rw [hkk] at HKI
    clear hkk htt hbd hL64 hk ht HSM
    generalize hXe : strOfNums bd = X at *
    have HXE := hide hXe
    clear hXe
    go_enter Try.func4, Try.ntmps4
    go_wp2_with fail
    refine (HAW.out _).mono ?_
    rintro e w1 ⟨rfl, hb1⟩
    have HB1 := hide hb1
    clear hb1
    go_wp2_with fail
    refine (HBO.out _ HB1.out).mono ?_
    rintro e w2 ⟨a', c', rfl, hA2, hb2⟩
    have HA2 := hide hA2
    have HB2 := hide (HB1.out.trans (hb2.mono HB1.out.size))
    clear hb2 hA2
    go_wp2_with fail
    refine (HRO.out _ HB2.out).mono ?_
    rintro e w3 ⟨rfl, hb3⟩
    have HB23 := hide hb3
    have HB3 := hide (HB2.out.trans (hb3.mono HB2.out.size))
    clear hb3
    have hcv := conv_bytes c' (HA2.out.below HB23.out).2.2.1
    rw [HXE.out] at hcv
    go_wp2_with fail
    refine (HKI.out _ HB3.out).mono ?_
    rintro e w4 ⟨rfl, hb4⟩
    have HB4 := hide (HB3.out.trans (hb4.mono HB3.out.size))
    have HB34 := hide hb4
    clear hb4 hcv
    go_wp2_with fail
    refine (HSE.out _ _ _ ((HA2.out.below HB23.out).below HB34.out)).mono ?_
    rintro e w5 ⟨g, c, tail, rfl, hc, hcm, hg, hblk, hb5⟩
    have HB5 := hide (HB4.out.trans (hb5.mono HB4.out.size))
    have hA5 := arg_tail hblk HSB.out HL64.out hc hcm
    have hc1 := conv_bytes c hA5.2.2.1
    have hc2 := conv_bytes cap (HA.out.below HB5.out).2.2.1
    generalize strOfNums zs = T at *
    clear hblk hb5 hg hA5
    go_wp2_with fail
    go_ret
    exact ⟨rfl, HB5.out⟩
theorem blockopens_own {w : World} {a : Option Addr} {len cap : Nat} {zs : List Int} (hA : Arg .u8 w a len cap zs) :
    Calls Try.prog 4 #[.slice a len cap] w fun e w' => e = .returned (.bool true) ∧ Below w.heap.size w w' := by
  by_cases h : 200 < len
  · exact opens_great h
  · exact opens_any hA (by omega)
end Go.Proofs.Ytenkmggddacnaaa
