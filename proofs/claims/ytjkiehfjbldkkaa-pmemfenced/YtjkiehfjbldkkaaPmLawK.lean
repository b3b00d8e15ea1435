/-
  Layer 5's statements: PmemFenced.
-/
import Derived.Test.YtjkiehfjbldkkaaPmLawJ
namespace Go.Proofs.Ytjkiehfjbldkkaa
set_option linter.unusedVariables false
set_option linter.unusedSimpArgs false
open Go.RowKit

set_option maxRecDepth 100000 in
set_option maxHeartbeats 4000000 in
theorem fenced_great {w : World} (n v0 v1 v2 v3 v4 v5 v6 v7 : Int) {p : Option Addr} {pl pc : Nat} {l : List Int} (hP : Arg .i64 w p pl pc l) {a : Option Addr} {len cap : Nat} {xs : List Ac} (hA : Acts w a len cap xs) (h : smallB xs 30 = false ∨ (smallB xs 30 = true ∧ 60 < pl)) :
    Calls Try.prog 5 #[.agg #[.int .i64 n, .int .u64 v0, .int .u64 v1, .int .u64 v2, .int .u64 v3, .int .u64 v4, .int .u64 v5, .int .u64 v6, .int .u64 v7, .slice a len cap, .slice p pl pc]] w fun e w' => e = .returned (.bool true) ∧ Below w.heap.size w w' := by
  have HA := hide hA
  clear hA
  obtain ⟨W, hW⟩ : ∃ W, W = w.alloc (.cells #[.int .i64 n, .int .u64 v0, .int .u64 v1, .int .u64 v2, .int .u64 v3, .int .u64 v4, .int .u64 v5, .int .u64 v6, .int .u64 v7, .slice a len cap, .slice p pl pc] 55) := ⟨_, rfl⟩
  have hn0 : W.heap[w.heap.size]? = some (.cells #[.int .i64 n, .int .u64 v0, .int .u64 v1, .int .u64 v2, .int .u64 v3, .int .u64 v4, .int .u64 v5, .int .u64 v6, .int .u64 v7, .slice a len cap, .slice p pl pc] 55 (0, 0)) := by rw [hW]; exact heap_alloc_new _ _
  have c1 : W.cell? ⟨w.heap.size, 1, none⟩ = some (.int .u64 v0) := by simp [World.cell?, hn0]
  have c2 : W.cell? ⟨w.heap.size, 2, none⟩ = some (.int .u64 v1) := by simp [World.cell?, hn0]
  have c3 : W.cell? ⟨w.heap.size, 3, none⟩ = some (.int .u64 v2) := by simp [World.cell?, hn0]
  have c4 : W.cell? ⟨w.heap.size, 4, none⟩ = some (.int .u64 v3) := by simp [World.cell?, hn0]
  have c5 : W.cell? ⟨w.heap.size, 5, none⟩ = some (.int .u64 v4) := by simp [World.cell?, hn0]
  have c6 : W.cell? ⟨w.heap.size, 6, none⟩ = some (.int .u64 v5) := by simp [World.cell?, hn0]
  have c7 : W.cell? ⟨w.heap.size, 7, none⟩ = some (.int .u64 v6) := by simp [World.cell?, hn0]
  have c8 : W.cell? ⟨w.heap.size, 8, none⟩ = some (.int .u64 v7) := by simp [World.cell?, hn0]
  have c9 : W.cell? ⟨w.heap.size, 9, none⟩ = some (.slice a len cap) := by simp [World.cell?, hn0]
  have hlt := World.block_lt_of_cell? W _ c1
  have hbW : Below w.heap.size w W := by rw [hW]; exact (Below.refl _ _).alloc (Nat.le_refl _) _
  obtain ⟨V, hV⟩ : ∃ V, V = (W.alloc (.cells #[.int .u64 v0, .int .u64 v1, .int .u64 v2, .int .u64 v3, .int .u64 v4, .int .u64 v5, .int .u64 v6, .int .u64 v7] 53)).drew := ⟨_, rfl⟩
  have hbV : Below w.heap.size w V := by rw [hV]; exact (hbW.alloc hbW.size _).drew
  have hVn : V.heap[w.heap.size]? = some (.cells #[.int .i64 n, .int .u64 v0, .int .u64 v1, .int .u64 v2, .int .u64 v3, .int .u64 v4, .int .u64 v5, .int .u64 v6, .int .u64 v7, .slice a len cap, .slice p pl pc] 55 (0, 0)) := by
    rw [hV]
    show (W.alloc _).heap[w.heap.size]? = _
    rw [Below.heap_alloc _ _ _ hlt]
    exact hn0
  have hVw : V.heap[W.heap.size]? = some (.cells (blk .u64 [v0, v1, v2, v3, v4, v5, v6, v7]) 53 (0, 0)) := by
    rw [hV]
    exact heap_alloc_new W _
  have HVN := hide hVn
  have HVW := hide hVw
  have HBV := hide hbV
  have d0 : V.cell? ⟨w.heap.size, 0, none⟩ = some (.int .i64 n) := by simp [World.cell?, hVn]
  have d10 : V.cell? ⟨w.heap.size, 10, none⟩ = some (.slice p pl pc) := by simp [World.cell?, hVn]
  have D0 := hide d0
  have D10 := hide d10
  have lV := heap_lt hVn
  have lG := heap_lt hVw
  have hBW : w.heap.size < W.heap.size := hlt
  clear hVn hVw hbV d0 d10
  go_enter Try.func5, Try.ntmps5
  go_wp2_with fail
  rw [← hW]
  clear hW hn0 hbW
  generalize hB : w.heap.size = B at c1 c2 c3 c4 c5 c6 c7 c8 c9 hlt lV hBW D0 D10 HVN ⊢
  have HB := hide hB
  clear hB
  go_region_held3 (fun w' => w'.cell? ⟨B, 1, none⟩ = some (.int .u64 v0) ∧ w'.cell? ⟨B, 2, none⟩ = some (.int .u64 v1) ∧ w'.cell? ⟨B, 3, none⟩ = some (.int .u64 v2) ∧ w'.cell? ⟨B, 4, none⟩ = some (.int .u64 v3) ∧ w'.cell? ⟨B, 5, none⟩ = some (.int .u64 v4) ∧ w'.cell? ⟨B, 6, none⟩ = some (.int .u64 v5) ∧ w'.cell? ⟨B, 7, none⟩ = some (.int .u64 v6) ∧ w'.cell? ⟨B, 8, none⟩ = some (.int .u64 v7) ∧ w'.cell? ⟨B, 9, none⟩ = some (.slice a len cap))
    (go_keep) (fail)
  rw [← hV]
  clear hV c1 c2 c3 c4 c5 c6 c7 c8 c9
  generalize hG : W.heap.size = G at *
  clear hG
  rcases h with h | ⟨h, h1⟩
  · go_wp2_with fail
    refine (awake_any _).mono ?_
    rintro e w1 ⟨rfl, hb1⟩
    have HB1 := hide (HBV.out.trans (hb1.mono HBV.out.size))
    clear hb1
    go_wp2_with fail
    refine (small_any (HA.out.below HB1.out) 30 (by decide)).mono ?_
    rintro e w2 ⟨rfl, hb2⟩
    have HB2 := hide (HB1.out.trans (hb2.mono HB1.out.size))
    clear hb2
    go_wp2_with fail
    refine (awake_any _).mono ?_
    rintro e w3 ⟨rfl, hb3⟩
    have HB3 := hide (HB2.out.trans (hb3.mono HB2.out.size))
    clear hb3
    go_wp2_with fail
    go_ret
    exact ⟨rfl, HB3.out⟩
  · have h1' : (60 : Int) < (pl : Int) := by omega
    go_wp2_with fail
    refine (awake_any _).mono ?_
    rintro e w1 ⟨rfl, hb1⟩
    have HB1 := hide (HBV.out.trans (hb1.mono HBV.out.size))
    have HK1 := hide hb1
    clear hb1
    go_wp2_with fail
    refine (small_any (HA.out.below HB1.out) 30 (by decide)).mono ?_
    rintro e w2 ⟨rfl, hb2⟩
    have HB2 := hide (HB1.out.trans (hb2.mono HB1.out.size))
    have HK2 := hide (HK1.out.trans (hb2.mono HK1.out.size))
    clear hb2
    have e10 := (HK2.out.cell (p := ⟨B, 10, none⟩) lV).trans D10.out
    go_wp2_with fail
    refine (awake_any _).mono ?_
    rintro e w3 ⟨rfl, hb3⟩
    have HB3 := hide (HB2.out.trans (hb3.mono HB2.out.size))
    clear hb3
    go_wp2_with fail
    go_ret
    exact ⟨rfl, HB3.out⟩

set_option maxRecDepth 100000 in
set_option maxHeartbeats 4000000 in
theorem fenced_yes {w : World} (n v0 v1 v2 v3 v4 v5 v6 v7 : Int) (hn : (Lit.int .i64 n).wf = true) (hv : ∀ v ∈ [v0, v1, v2, v3, v4, v5, v6, v7], (Lit.int .u64 v).wf = true) {p : Option Addr} {pl pc : Nat} {l : List Int} (hP : Arg .i64 w p pl pc l) (hpl : pl ≤ 60) {a : Option Addr} {len cap : Nat} {xs : List Ac} (hA : Acts w a len cap xs) (h : smallB xs 30 = true) :
    Calls Try.prog 5 #[.agg #[.int .i64 n, .int .u64 v0, .int .u64 v1, .int .u64 v2, .int .u64 v3, .int .u64 v4, .int .u64 v5, .int .u64 v6, .int .u64 v7, .slice a len cap, .slice p pl pc]] w fun e w' => e = .returned (.bool true) ∧ Below w.heap.size w w' := by
  have HA := hide hA
  have HPL := hide hP
  have HSM : Hid (xs.length ≤ 30 ∧ ∀ x ∈ xs, x.len ≤ 40) := by
    show _ ∧ _
    unfold smallB at h
    simpa using h
  have hlen := hA.1
  have hl30 : len ≤ 30 := by have := HSM.out.1; omega
  have hp1 : ¬ (60 : Int) < (pl : Int) := by omega
  have HN := hide (fun W => new_own W 4 (by decide))
  have HPB : Hid (0 < pl → ∀ x, p = some x → x.block < w.heap.size) := arg_block hP
  have HRL := hide (fun W => rest_any n 4 W (by decide) (by decide) hn)
  obtain ⟨k, hk⟩ : ∃ k : Nat, n % 4 = (k : Int) := ⟨(n % 4).toNat, by omega⟩
  have hk4 : k < 4 := by omega
  rw [hk] at HRL
  have HVL := hide hv
  clear hA hP hk hn hv
  obtain ⟨W, hW⟩ : ∃ W, W = w.alloc (.cells #[.int .i64 n, .int .u64 v0, .int .u64 v1, .int .u64 v2, .int .u64 v3, .int .u64 v4, .int .u64 v5, .int .u64 v6, .int .u64 v7, .slice a len cap, .slice p pl pc] 55) := ⟨_, rfl⟩
  have hn0 : W.heap[w.heap.size]? = some (.cells #[.int .i64 n, .int .u64 v0, .int .u64 v1, .int .u64 v2, .int .u64 v3, .int .u64 v4, .int .u64 v5, .int .u64 v6, .int .u64 v7, .slice a len cap, .slice p pl pc] 55 (0, 0)) := by rw [hW]; exact heap_alloc_new _ _
  have c1 : W.cell? ⟨w.heap.size, 1, none⟩ = some (.int .u64 v0) := by simp [World.cell?, hn0]
  have c2 : W.cell? ⟨w.heap.size, 2, none⟩ = some (.int .u64 v1) := by simp [World.cell?, hn0]
  have c3 : W.cell? ⟨w.heap.size, 3, none⟩ = some (.int .u64 v2) := by simp [World.cell?, hn0]
  have c4 : W.cell? ⟨w.heap.size, 4, none⟩ = some (.int .u64 v3) := by simp [World.cell?, hn0]
  have c5 : W.cell? ⟨w.heap.size, 5, none⟩ = some (.int .u64 v4) := by simp [World.cell?, hn0]
  have c6 : W.cell? ⟨w.heap.size, 6, none⟩ = some (.int .u64 v5) := by simp [World.cell?, hn0]
  have c7 : W.cell? ⟨w.heap.size, 7, none⟩ = some (.int .u64 v6) := by simp [World.cell?, hn0]
  have c8 : W.cell? ⟨w.heap.size, 8, none⟩ = some (.int .u64 v7) := by simp [World.cell?, hn0]
  have c9 : W.cell? ⟨w.heap.size, 9, none⟩ = some (.slice a len cap) := by simp [World.cell?, hn0]
  have hlt := World.block_lt_of_cell? W _ c1
  have hbW : Below w.heap.size w W := by rw [hW]; exact (Below.refl _ _).alloc (Nat.le_refl _) _
  obtain ⟨V, hV⟩ : ∃ V, V = (W.alloc (.cells #[.int .u64 v0, .int .u64 v1, .int .u64 v2, .int .u64 v3, .int .u64 v4, .int .u64 v5, .int .u64 v6, .int .u64 v7] 53)).drew := ⟨_, rfl⟩
  have hbV : Below w.heap.size w V := by rw [hV]; exact (hbW.alloc hbW.size _).drew
  have hVn : V.heap[w.heap.size]? = some (.cells #[.int .i64 n, .int .u64 v0, .int .u64 v1, .int .u64 v2, .int .u64 v3, .int .u64 v4, .int .u64 v5, .int .u64 v6, .int .u64 v7, .slice a len cap, .slice p pl pc] 55 (0, 0)) := by
    rw [hV]
    show (W.alloc _).heap[w.heap.size]? = _
    rw [Below.heap_alloc _ _ _ hlt]
    exact hn0
  have hVw : V.heap[W.heap.size]? = some (.cells (blk .u64 [v0, v1, v2, v3, v4, v5, v6, v7]) 53 (0, 0)) := by
    rw [hV]
    exact heap_alloc_new W _
  have HVN := hide hVn
  have HVW := hide hVw
  have HBV := hide hbV
  have d0 : V.cell? ⟨w.heap.size, 0, none⟩ = some (.int .i64 n) := by simp [World.cell?, hVn]
  have d10 : V.cell? ⟨w.heap.size, 10, none⟩ = some (.slice p pl pc) := by simp [World.cell?, hVn]
  have D0 := hide d0
  have D10 := hide d10
  have lV := heap_lt hVn
  have lG := heap_lt hVw
  have hBW : w.heap.size < W.heap.size := hlt
  clear hVn hVw hbV d0 d10
  go_enter Try.func5, Try.ntmps5
  go_wp2_with fail
  rw [← hW]
  clear hW hn0 hbW
  generalize hB : w.heap.size = B at c1 c2 c3 c4 c5 c6 c7 c8 c9 hlt lV hBW D0 D10 HVN ⊢
  have HB := hide hB
  clear hB
  go_region_held3 (fun w' => w'.cell? ⟨B, 1, none⟩ = some (.int .u64 v0) ∧ w'.cell? ⟨B, 2, none⟩ = some (.int .u64 v1) ∧ w'.cell? ⟨B, 3, none⟩ = some (.int .u64 v2) ∧ w'.cell? ⟨B, 4, none⟩ = some (.int .u64 v3) ∧ w'.cell? ⟨B, 5, none⟩ = some (.int .u64 v4) ∧ w'.cell? ⟨B, 6, none⟩ = some (.int .u64 v5) ∧ w'.cell? ⟨B, 7, none⟩ = some (.int .u64 v6) ∧ w'.cell? ⟨B, 8, none⟩ = some (.int .u64 v7) ∧ w'.cell? ⟨B, 9, none⟩ = some (.slice a len cap))
    (go_keep) (fail)
  rw [← hV]
  clear hV c1 c2 c3 c4 c5 c6 c7 c8 c9
  generalize hG : W.heap.size = G at *
  clear hG
  obtain ⟨vs, hvs⟩ : ∃ vs, vs = [v0, v1, v2, v3, v4, v5, v6, v7] := ⟨_, rfl⟩
  rw [← hvs] at HVW HVL
  have hv8 : vs.length = 8 := by rw [hvs]; rfl
  clear hvs
  go_wp2_with fail
  refine (awake_any _).mono ?_
  rintro e w1 ⟨rfl, hb1⟩
  have HK1 := hide hb1
  clear hb1
  go_wp2_with fail
  refine (small_any (HA.out.below (HBV.out.trans (HK1.out.mono HBV.out.size))) 30 (by decide)).mono ?_
  rintro e w2 ⟨rfl, hb2⟩
  have HK2 := hide (HK1.out.trans (hb2.mono HK1.out.size))
  clear hb2
  have e10 := (HK2.out.cell (p := ⟨B, 10, none⟩) lV).trans D10.out
  go_wp2_with fail
  clear e10
  refine (HN.out _).mono ?_
  rintro e w3 ⟨b, rfl, hP, hb3⟩
  have HK3 := hide (HK2.out.trans (hb3.mono HK2.out.size))
  have HP : Hid (POwn V.heap.size w3 b (Pm.new (8 * 4))) := by
    obtain ⟨F, q1, q2⟩ := hP
    exact ⟨F, q1, fun k hk => ⟨Nat.le_trans HK2.out.size (q2 k hk).1, (q2 k hk).2⟩⟩
  clear hP hb3
  have e0 := (HK3.out.cell (p := ⟨B, 0, none⟩) lV).trans D0.out
  go_wp2_with fail
  clear e0
  refine (HRL.out _).mono ?_
  rintro e w4 ⟨rfl, hw⟩
  obtain rfl := hw.symm
  have HST0 := hide (stor_new k vs)
  go_wp2_with fail
  go_loopw [8] (fun i wr => ∃ (j : Nat) (s : Pm.D), j ≤ 8 ∧ i = .int .i64 j ∧ Stor k vs j s ∧ POwn V.heap.size wr b s ∧ Below V.heap.size V wr) (fun i _ => 8 - (intOf i).toNat)
  case atStart => exact ⟨0, _, Nat.zero_le _, rfl, HST0.out, HP.out, HK3.out⟩
  case round =>
    obtain ⟨j, s, hj, rfl, hss, hpo, hbr⟩ := hrel
    have HKr := hide hbr
    have HPo := hide hpo
    have HSs := hide hss
    have hm32 : s.ws.length ≤ 40000 := by rw [hss.len]; omega
    clear hpo hss hbr
    by_cases hlt8 : j < 8
    · have hj8 : (j : Int) < 8 := by omega
      have hvm : vs.getD j 0 ∈ vs := by
        rw [List.getD_eq_getElem?_getD, List.getElem?_eq_getElem (by omega)]
        exact List.getElem_mem (by omega)
      have hcell := (cell_blk ((HKr.out.block G lG).trans HVW.out) (i := j) (by omega)).1
      have HSO := hide (store_own HPo.out HKr.out.size ((8 * k + j : Nat) : Int) (vs.getD j 0) hm32 (by rw [HSs.out.plan]; simp) (by rw [HSs.out.steps]; omega) (wf_of_bd ⟨by omega, by omega⟩) (HVL.out _ hvm))
      rw [HSs.out.err _ _ (by omega) (by rw [HSs.out.len]; omega)] at HSO
      have HSN := hide (HSs.out.store hlt8 hk4)
      have hcast : ((8 * k + j : Nat) : Int) = 8 * (k : Int) + (j : Int) := by omega
      rw [hcast] at HSO HSN
      clear hcast hvm
      generalize vs.getD j 0 = y at *
      go_wp2_with (go_at_call 26; refine HSO.out.mono ?_; rintro e W1 ⟨rfl, hp1', hb1⟩; have HP1 := hide hp1'; have HK1' := hide (HKr.out.trans hb1); clear hp1' hb1)
      go_roundw
      case rel => exact ⟨j + 1, _, by omega, by go_num, HSN.out, HP1.out, HK1'.out⟩
      case measure => simp [intOf]; omega
    · have hj8 : ¬ (j : Int) < 8 := by omega
      obtain rfl : j = 8 := by omega
      obtain ⟨wq, hwq⟩ : ∃ x, x = wr := ⟨_, rfl⟩
      subst hwq
      obtain ⟨q1, q2, q3, q4, q5, _⟩ := HSs.out.flush hk4
      have HFL := hide (flush_own HPo.out HKr.out.size k hm32 (by rw [HSs.out.plan]; simp) (by rw [HSs.out.steps]; omega) (wf_of_bd ⟨by omega, by omega⟩))
      rw [q1] at HFL
      have HLA := hide (HSs.out.fence hk4)
      have HQ5 := hide q5
      have hq2 : (Pm.flush s k).ws.length ≤ 40000 := by rw [q2]; decide
      have hq3 : (Pm.flush s k).plan.length ≤ 40000 := by rw [q3]; simp
      have hq4 : (Pm.flush s k).steps ≤ 1000000 := by rw [q4]; decide
      clear q1 q2 q3 q4 q5
      generalize Pm.flush s k = t at *
      go_wp2_with fail
      refine HFL.out.mono ?_
      rintro e W1 ⟨rfl, hp1', hb1⟩
      have HP1 := hide hp1'
      have HKa := hide (HKr.out.trans hb1)
      have HFE := hide (fence_own hp1' HKa.out.size hq2 hq3 hq4)
      rw [HQ5.out] at HFE
      clear hp1' hb1
      go_wp2_with fail
      refine HFE.out.mono ?_
      rintro e W2 ⟨rfl, hp2', hb2⟩
      have HP2 := hide hp2'
      have HKb := hide (HKa.out.trans hb2)
      clear hp2' hb2
      generalize Pm.fence t = t2 at *
      go_wp2_with fail
      go_loopw [9] (fun i wr => ∃ (j : Nat) (s : Pm.D), j ≤ len ∧ i = .int .i64 j ∧ Lasts k vs (10 + j) s ∧ POwn V.heap.size wr b s ∧ Below V.heap.size V wr) (fun i _ => len - (intOf i).toNat)
      case atStart => exact ⟨0, _, Nat.zero_le _, rfl, HLA.out, HP2.out, HKb.out⟩
      case round =>
        obtain ⟨j, s2, hj2, rfl, hls, hpo, hbr⟩ := hrel
        have HKc := hide hbr
        have HPc := hide hpo
        have HLs := hide hls
        have hm2 : s2.ws.length ≤ 40000 := by rw [hls.len]; omega
        have hst2 := hls.steps
        have HBc := hide (HBV.out.trans (hbr.mono HBV.out.size))
        clear hpo hls hbr
        by_cases hltj : j < len
        · have hkn : (j : Int) < (len : Int) := by omega
          have hkx : j < xs.length := by omega
          obtain ⟨x, hx⟩ : ∃ x, xs[j]? = some x := ⟨_, List.getElem?_eq_getElem hkx⟩
          have hxm := List.mem_of_getElem? hx
          have hx40 := HSM.out.2 x hxm
          have hxok := HA.out.2.2.2.1 x hxm
          have hxl : x.l.length = x.len := hxok.2.2.2.2.2.1.1
          have hAB : 0 < x.len → ∀ y, x.a = some y → y.block < V.heap.size := fun hl y hy => by have := arg_block hxok.2.2.2 hl y hy; have := HBV.out.size; omega
          obtain ⟨_, _, _, _, h5⟩ := HA.out.below HBc.out
          rcases h5 with h5 | ⟨ga, off, rfl, hgw, hc⟩
          · omega
          obtain ⟨q0, q1, q2, q3⟩ := hc j x hx
          obtain ⟨hkb0, hkb1⟩ := bd_i64 hxok.1
          have htm : x.kind.tmod 7 = 0 ↔ x.kind % 7 = 0 := by
            rw [← Int.dvd_iff_tmod_eq_zero, Int.dvd_iff_emod_eq_zero]
          have HDO := hide (do_own HPc.out HKc.out.size hm2 (by have := HLs.out.plan; omega) (by omega) x (ok_below hxok HBc.out) (by omega) hAB)
          have HDN := hide (fun hcnd => HLs.out.act x.plain (show x.l.length ≤ 40 by omega) hcnd)
          have hcl : x.cells.toArray = #[.int .i64 x.kind, .int .i64 x.at', .int .u64 x.w, .slice x.a x.len x.cap] := rfl
          rw [hcl] at HDO
          have hxp : x.plain.kind = x.kind ∧ x.plain.at' = x.at' := ⟨rfl, rfl⟩
          rw [hxp.1, hxp.2] at HDN
          generalize Pm.act s2 x.plain = s' at *
          generalize Pm.actV s2 x.plain = av at *
          generalize Pm.actE s2 x.plain = ae at *
          obtain ⟨xk, xat, xw, xa, xlen, xcap, xl⟩ := x
          simp only at q0 q1 q2 q3 HDO HDN htm hkb0 hkb1
          clear hc hxok hxm hcl hx hx40 hxl hAB hxp
          have hcase : (¬ xk.tmod 7 = 0) ∨ (xk.tmod 7 = 0 ∧ xat < 8 * (k : Int)) ∨ (xk.tmod 7 = 0 ∧ ¬ xat < 8 * (k : Int) ∧ 8 * (k : Int) + 8 ≤ xat) ∨ (xk.tmod 7 = 0 ∧ ¬ xat < 8 * (k : Int) ∧ ¬ 8 * (k : Int) + 8 ≤ xat) := by omega
          rcases hcase with h1 | ⟨h1, h2⟩ | ⟨h1, h2, h3⟩ | ⟨h1, h2, h3⟩
          · have HNX := hide (HDN.out (fun e => absurd (htm.2 e) h1))
            clear htm
            go_wp2_with fail
            refine HDO.out.mono ?_
            rintro e W5 ⟨rfl, hp5, hb5⟩
            have HP5 := hide hp5
            have HK5 := hide (HKc.out.trans hb5)
            clear hp5 hb5
            go_wp2_with fail
            go_roundw
            case rel => exact ⟨j + 1, s', by omega, by go_num, HNX.out, HP5.out, HK5.out⟩
            case measure => simp [intOf]; omega
          · have HNX := hide (HDN.out (fun e => .inl (by omega)))
            clear htm
            go_wp2_with fail
            refine HDO.out.mono ?_
            rintro e W5 ⟨rfl, hp5, hb5⟩
            have HP5 := hide hp5
            have HK5 := hide (HKc.out.trans hb5)
            clear hp5 hb5
            go_wp2_with fail
            go_roundw
            case rel => exact ⟨j + 1, s', by omega, by go_num, HNX.out, HP5.out, HK5.out⟩
            case measure => simp [intOf]; omega
          · have HNX := hide (HDN.out (fun e => .inr (by omega)))
            clear htm
            go_wp2_with fail
            refine HDO.out.mono ?_
            rintro e W5 ⟨rfl, hp5, hb5⟩
            have HP5 := hide hp5
            have HK5 := hide (HKc.out.trans hb5)
            clear hp5 hb5
            go_wp2_with fail
            go_roundw
            case rel => exact ⟨j + 1, s', by omega, by go_num, HNX.out, HP5.out, HK5.out⟩
            case measure => simp [intOf]; omega
          · clear htm
            have HNX : Hid (Lasts k vs (10 + (j + 1)) s2) := ⟨HLs.out.len, HLs.out.plan, by have := HLs.out.steps; omega, HLs.out.kept⟩
            go_wp2_with fail
            go_roundw
            case rel => exact ⟨j + 1, s2, by omega, by go_num, HNX.out, HPc.out, HKc.out⟩
            case measure => simp [intOf]; omega
        · have hkn : ¬ (j : Int) < (len : Int) := by omega
          obtain ⟨wz, hwz⟩ : ∃ x, x = wr := ⟨_, rfl⟩
          subst hwz
          have e10 := (HKc.out.cell (p := ⟨B, 10, none⟩) lV).trans D10.out
          have HCR := hide (crash_own HPc.out HKc.out.size hm2 (HPL.out.below HBc.out) (by omega) (fun hl x hx => by have := HPB.out hl x hx; have := HBV.out.size; omega))
          have HOC := hide (HLs.out.crash hv8 hk4 l)
          have hlc : (Pm.crash s2 l).ws.length = 32 := (Pm.crashW_length _ _).trans HLs.out.len
          go_wp2_with fail
          clear e10
          refine HCR.out.mono ?_
          rintro e W6 ⟨rfl, hp6, hb6⟩
          have HK6 := hide (HKc.out.trans hb6)
          have HIM := hide (hp6.image (by rw [hlc]; decide))
          rw [hlc, show 8 * 32 = 256 from rfl] at HIM
          clear hp6 hb6
          go_wp2_with fail
          refine HIM.out.mono ?_
          rintro e W7 ⟨ax, cx, rfl, hcx, hr7, hb7⟩
          have HK7 := hide (HK6.out.trans (hb7.mono HK6.out.size))
          obtain ⟨xb, xo, rfl, hxr⟩ := hr7.cut (64 * k) 64 (by omega) (by omega)
          rw [HOC.out] at hxr
          have HXR := hide hxr
          have hrG : Row .u64 W7 (some ⟨G, 0, none⟩) 8 vs := row_of_block ((HK7.out.block G lG).trans HVW.out) hv8
          have HTX := hide (rtext_any (w := W7.drew) (cap := 8) hrG (fun v hv => bd_u64 (HVL.out v hv)) (by decide))
          obtain ⟨T, hT⟩ : ∃ T, strOfNums (octs vs) = T := ⟨_, rfl⟩
          have HCV : Hid (∀ X, Row .u8 X (some ⟨xb, xo + 64 * k, none⟩) 64 (octs vs) → (convert 47 9 (.slice (some ⟨xb, xo + 64 * k, none⟩) 64 (cx - 64 * k))).run Try.prog X = .ok (.string T) X) := by
            show ∀ X, _ → _
            intro X hr
            rw [← hT]
            exact conv_bytes _ hr
          rw [hT] at HTX
          have hcv0 := HCV.out W7.drew hxr
          have HBZ := hide (HBV.out.trans (HK7.out.mono HBV.out.size))
          clear hT hrG hr7 hb7 hxr
          have hw1 : IntKind.i64.wrap (64 * (k : Int)) = 64 * (k : Int) := by rw [IntKind.wrap_i64]; omega
          have hw2 : IntKind.i64.wrap (64 * (k : Int) + 64) = 64 * (k : Int) + 64 := by rw [IntKind.wrap_i64]; omega
          have ht1 : (64 * (k : Int)).toNat = 64 * k := by omega
          have ht2 : (64 * (k : Int) + 64).toNat = 64 * k + 64 := by omega
          have hp0 : (0 : Int) ≤ 64 * (k : Int) := by omega
          have hp2 : (64 : Int) * (k : Int) ≤ 64 * (k : Int) + 64 := by omega
          have hp3 : (64 : Int) * (k : Int) + 64 ≤ (cx : Int) := by omega
          have hd8 : 64 * k + 64 - 64 * k = 64 := by omega
          have hn1 : ¬ cx = 64 * k := by omega
          have hk0 : (0 : Int) ≤ (k : Int) := by omega
          go_wp2_with fail
          go_region_held_law (fun w' => (convert 47 9 (.slice (some ⟨xb, xo + 64 * k, none⟩) 64 (cx - 64 * k))).run Try.prog w' = .ok (.string T) w')
            (first
              | exact HCV.out _ (HXR.out.below hb8)
              | exact hcv0)
            (first
              | (go_at_call 22; refine HTX.out.mono ?_; rintro e w8 ⟨rfl, hb8'⟩; have hb8 : Below W7.heap.size W7 w8 := Below.trans (b := W7.drew) ⟨rfl, rfl, rfl, Nat.le_refl _, fun _ _ => rfl⟩ hb8'; clear hb8'))
          all_goals
            have HB8 := hide (HBZ.out.trans (hb8.mono HBZ.out.size))
            go_wp2_with fail
            go_ret
            exact ⟨rfl, HB8.out⟩

theorem fenced_any {w : World} (n v0 v1 v2 v3 v4 v5 v6 v7 : Int) (hn : (Lit.int .i64 n).wf = true) (hv : ∀ v ∈ [v0, v1, v2, v3, v4, v5, v6, v7], (Lit.int .u64 v).wf = true) {p : Option Addr} {pl pc : Nat} {l : List Int} (hP : Arg .i64 w p pl pc l) {a : Option Addr} {len cap : Nat} {xs : List Ac} (hA : Acts w a len cap xs) :
    Calls Try.prog 5 #[.agg #[.int .i64 n, .int .u64 v0, .int .u64 v1, .int .u64 v2, .int .u64 v3, .int .u64 v4, .int .u64 v5, .int .u64 v6, .int .u64 v7, .slice a len cap, .slice p pl pc]] w fun e w' => e = .returned (.bool true) ∧ Below w.heap.size w w' := by
  cases h : smallB xs 30 with
  | false => exact fenced_great n v0 v1 v2 v3 v4 v5 v6 v7 hP hA (.inl h)
  | true =>
    by_cases h2 : pl ≤ 60
    · exact fenced_yes n v0 v1 v2 v3 v4 v5 v6 v7 hn hv hP h2 hA h
    · exact fenced_great n v0 v1 v2 v3 v4 v5 v6 v7 hP hA (.inr ⟨h, by omega⟩)
end Go.Proofs.Ytjkiehfjbldkkaa
