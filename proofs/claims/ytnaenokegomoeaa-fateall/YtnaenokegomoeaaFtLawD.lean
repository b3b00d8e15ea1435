/-
  Layer 6's statements: FateCrashes.
-/
import Derived.Test.YtnaenokegomoeaaFtLawC
import Derived.Test.YtnaenokegomoeaaFtE
namespace Go.Proofs.Ytnaenokegomoeaa
set_option linter.unusedVariables false
set_option linter.unusedSimpArgs false
open Go.RowKit

theorem octs_inj {A B : List Int} (hl : A.length = B.length) (hA : ∀ v ∈ A, 0 ≤ v ∧ v ≤ 18446744073709551615) (hB : ∀ v ∈ B, 0 ≤ v ∧ v ≤ 18446744073709551615) (h : octs A = octs B) : A = B := by
  have e3 := words_oct A (fun v hv => wf_u64 (hA v hv).1 (hA v hv).2)
  have e4 := words_oct B (fun v hv => wf_u64 (hB v hv).1 (hB v hv).2)
  rw [octTo_all] at e3 e4
  rw [← e3, ← e4, ← hl]
  show wordsTo (octs A) _ = wordsTo (octs B) _
  rw [h]
theorem images_bd {ws : List Pm.W} (h : ∀ x ∈ ws, x.Ok) {M : List Int} (hM : M ∈ Pm.images ws) : ∀ v ∈ M, 0 ≤ v ∧ v ≤ 18446744073709551615 := fun v hv => by
  obtain ⟨hl, hi⟩ := Pm.mem_images.1 hM
  obtain ⟨j, hj⟩ := List.getElem?_of_mem hv
  have hjl : j < ws.length := by
    have := (List.getElem?_eq_some_iff.1 hj).1
    omega
  obtain ⟨u, hu, hm⟩ := hi j ws[j] (List.getElem?_eq_getElem hjl)
  rw [hj] at hu
  rw [Option.some.inj hu]
  have hx := h ws[j] (List.getElem_mem hjl)
  have hb : ∀ n, 0 ≤ Pm.choose ws[j] n ∧ Pm.choose ws[j] n ≤ 18446744073709551615 := fun n => by
    unfold Pm.choose
    split
    · exact ⟨hx.s0, hx.s1⟩
    · split
      · exact ⟨hx.t0, hx.t1⟩
      · exact ⟨hx.l0, hx.l1⟩
  unfold Pm.wordVals at hm
  split at hm
  · rcases Pm.mem_vals3.1 hm with e | e | e
    · rw [e]; exact hb 0
    · rw [e]; exact hb 1
    · rw [e]; exact hb 2
  · rw [List.mem_singleton.1 hm]
    exact ⟨hx.l0, hx.l1⟩
theorem wf_u8 {x : Int} (h : 0 ≤ x ∧ x ≤ 255) : (Lit.int .u8 x).wf = true := by
  simpa [Lit.wf, IntKind.min, IntKind.max, IntKind.signed, IntKind.bits] using h
/-- how often an image is among the first. -/
def tally (LL : List (List Int)) (L : List Int) (k : Nat) : Nat := ((LL.take k).filter fun M => M == L).length
theorem tally_step {LL : List (List Int)} {L M : List Int} {k : Nat} (h : LL[k]? = some M) : tally LL L (k + 1) = tally LL L k + (if M = L then 1 else 0) := by
  unfold tally
  rw [List.take_add_one, h, List.filter_append, List.length_append]
  by_cases e : M = L
  · subst e
    simp
  · have : (M == L) = false := by simpa using e
    simp [this, e]
theorem tally_le (LL : List (List Int)) (L : List Int) (k : Nat) : tally LL L k ≤ k := by
  unfold tally
  refine Nat.le_trans (List.length_filter_le _ _) ?_
  rw [List.length_take]
  omega
theorem tally_all {LL : List (List Int)} {L : List Int} (hn : LL.Nodup) (hm : L ∈ LL) : tally LL L LL.length = 1 := by
  unfold tally
  rw [List.take_length]
  induction LL with
  | nil => cases hm
  | cons M r ih =>
    rw [List.nodup_cons] at hn
    by_cases e : M = L
    · subst e
      have : r.filter (fun N => N == M) = [] := by
        rw [List.filter_eq_nil_iff]
        intro N hN e
        have e' : N = M := by simpa using e
        exact hn.1 (e' ▸ hN)
      simp [this]
    · have e' : (M == L) = false := by simpa using e
      rw [List.filter_cons, e']
      simp only [Bool.false_eq_true, if_false]
      rcases List.mem_cons.1 hm with h | h
      · exact absurd h.symm e
      · exact ih hn.2 h

set_option maxRecDepth 100000 in
set_option maxHeartbeats 1000000 in
theorem crashes_great {w : World} (l : Nat) {a : Option Addr} {len cap : Nat} {p : Option Addr} {pl pc : Nat} (h : 60 < pl) :
    Calls Try.prog 6 #[.int .u8 l, .slice a len cap, .slice p pl pc] w fun e w' => e = .returned (.bool true) ∧ Below w.heap.size w w' := by
  have HAW := hide (fun W => fawake_any W)
  have hI : (60 : Int) < (pl : Int) := by omega
  go_enter Try.func6, Try.ntmps6
  go_wp2_with fail
  refine (HAW.out _).mono ?_
  rintro e w1 ⟨rfl, hb1⟩
  have HB1 := hide hb1
  clear hb1
  go_wp2_with fail
  refine (HAW.out _).mono ?_
  rintro e w2 ⟨rfl, hb2⟩
  have HB2 := hide (HB1.out.trans (hb2.mono HB1.out.size))
  clear hb2
  go_wp2_with fail
  go_ret
  exact ⟨rfl, HB2.out⟩

set_option maxRecDepth 100000 in
set_option maxHeartbeats 1000000 in
theorem crashes_nil {w : World} (l : Nat) (hl : l ≤ 255) {a : Option Addr} {len cap : Nat} {xs : List Ac} (hA : Acts w a len cap xs) {p : Option Addr} {pl pc : Nat} (h : pl ≤ 60) (hs : smallB xs 40 = false) :
    Calls Try.prog 6 #[.int .u8 l, .slice a len cap, .slice p pl pc] w fun e w' => e = .returned (.bool true) ∧ Below w.heap.size w w' := by
  have HAW := hide (fun W => fawake_any W)
  have HA := hide hA
  have hI : ¬ (60 : Int) < (pl : Int) := by omega
  clear hA
  go_enter Try.func6, Try.ntmps6
  go_wp2_with fail
  refine (HAW.out _).mono ?_
  rintro e w1 ⟨rfl, hb1⟩
  have HB1 := hide hb1
  clear hb1
  go_wp2_with fail
  refine (made_no l hl (HA.out.below HB1.out) hs).mono ?_
  rintro e w2 ⟨rfl, hb2⟩
  have HB2 := hide (HB1.out.trans (hb2.mono HB1.out.size))
  clear hb2
  go_wp2_with fail
  refine (made_no l hl (HA.out.below HB2.out) hs).mono ?_
  rintro e w3 ⟨rfl, hb3⟩
  have HB3 := hide (HB2.out.trans (hb3.mono HB2.out.size))
  clear hb3
  go_wp2_with fail
  go_ret
  exact ⟨rfl, HB3.out⟩

set_option maxRecDepth 100000 in
set_option maxHeartbeats 8000000 in
theorem crashes_some {w : World} (l : Nat) (hl : l ≤ 255) {a : Option Addr} {len cap : Nat} {xs : List Ac} (hA : Acts w a len cap xs) {p : Option Addr} {pl pc : Nat} {ch : List Int} (hI : Arg .i64 w p pl pc ch) (h : pl ≤ 60) (hs : smallB xs 40 = true) :
    Calls Try.prog 6 #[.int .u8 l, .slice a len cap, .slice p pl pc] w fun e w' => e = .returned (.bool true) ∧ Below w.heap.size w w' := by
  have HAW := hide (fun W => fawake_any W)
  have HA := hide hA
  have HI := hide hI
  have hIi : ¬ (60 : Int) < (pl : Int) := by omega
  have HLN := hide (small_len hA (l % 4) hs)
  have HIB := hide (fun hp => arg_block hI hp)
  clear hA hI
  go_enter Try.func6, Try.ntmps6
  go_wp2_with fail
  refine (HAW.out _).mono ?_
  rintro e w1 ⟨rfl, hb1⟩
  have HB1 := hide hb1
  clear hb1
  go_wp2_with fail
  refine (made_yes l hl (HA.out.below HB1.out) hs).mono ?_
  rintro e w2 ⟨b, _, rfl, hbo, hb2⟩
  have HB2 := hide (HB1.out.trans (hb2.mono HB1.out.size))
  obtain ⟨F, _, _, _, _, _, _, _, hP, _, hF, _, _⟩ := hbo
  have HP2 := hide hP
  have HF := hide hF
  clear hb2 hP hF
  go_wp2_with fail
  refine (made_yes l hl (HA.out.below HB2.out) hs).mono ?_
  rintro e w3 ⟨d, _, rfl, hbo, hb3⟩
  obtain ⟨s, hS⟩ : ∃ s, madeD (l % 4) xs = s := ⟨_, rfl⟩
  rw [hS] at hbo HLN HP2
  have hs40 : s.ws.length ≤ 40000 := by have := HLN.out; omega
  have hs8 : s.ws.length % 8 = 0 := by have := HLN.out; omega
  have hs3 : s.ws.length ≤ 24 := by have := HLN.out; omega
  have HB23 := hide hb3
  have HB3 := hide (HB2.out.trans (hb3.mono HB2.out.size))
  obtain ⟨F2, _, _, _, _, _, _, _, hP, _, hF, _, _⟩ := hbo
  have HP3 := hide hP
  have HF2 := hide hF
  clear hb3 hP hF hS HLN
  have HCR : Hid (Calls Try.prog 19 #[.pointer (some ⟨d, 0, none⟩), .slice p pl pc] w3 fun e w' => e = .returned (.tuple #[]) ∧ PNext w3 d (Pm.crash s ch) F2 w') := by
    refine pcrash_any HP3.out (fun k hk => (HF2.out k hk).2) hs40 (HI.out.below HB3.out) (by omega) (fun hp x hx hf => ?_)
    have h1 := HIB.out hp x hx
    have h2 := (HF2.out _ hf).1
    have h3 := HB2.out.size
    omega
  go_wp2_with fail
  refine HCR.out.mono ?_
  rintro e w4 ⟨rfl, F', hP4, _, _, hO4⟩
  have hB24 : Below w2.heap.size w2 w4 := HB23.out.trans (hO4.below (fun k hk => (HF2.out k hk).1) HB23.out.size)
  have HB24 := hide hB24
  have HP4 := hide hP4
  clear hP4 hO4 hB24 HCR
  have HCW : Hid ((Pm.crash s ch).ws.length = s.ws.length) := Pm.crashW_length _ _
  obtain ⟨L, hL⟩ : ∃ L, Pm.lastL (Pm.crash s ch).ws = L := ⟨_, rfl⟩
  have HMEM : Hid (L ∈ Pm.images s.ws) := by rw [← hL]; exact Pm.crash_mem s.ws ch
  have HOK := hide HP2.out.ok.ws
  have HLB := hide (images_bd HOK.out HMEM.out)
  have HLL := hide (Pm.mem_images.1 HMEM.out).1
  have HMAY : Hid (mayB s (octs L) = true) := by
    refine decide_eq_true ⟨by rw [octs_length, HLL.out], ?_⟩
    have e := words_oct L (fun v hv => wf_u64 (HLB.out v hv).1 (HLB.out v hv).2)
    rw [octTo_all, HLL.out] at e
    have e2 : wordsTo (octs L) s.ws.length = L := e
    rw [e2]
    exact HMEM.out
  go_wp2_with fail
  refine (pimage_new HP4.out (by rw [HCW.out]; exact hs40)).mono ?_
  rintro e w5 ⟨mg, rfl, hmg, hmk, hb5⟩
  rw [HCW.out]
  rw [hL] at hmk
  have HB25 := hide (HB24.out.trans (hb5.mono HB24.out.size))
  have HP5 := hide (HP2.out.kept HB25.out.size (fun k _ hk => HB25.out.block k hk))
  have HMA : Hid (Arg .u8 w5 (some ⟨mg, 0, none⟩) (8 * s.ws.length) (8 * s.ws.length) (octs L)) := ⟨Nat.le_refl _, by unfold maxLen; omega, row_of_block hmk (by rw [octs_length, HLL.out]), fun z hz => wf_u8 (octs_bytes L z hz), .inr ⟨mg, 0, rfl⟩⟩
  clear hmg hmk hb5 hL HP4
  have HNF : Hid ((choicesB s (octs L)).length = (Pm.fates s).length) := by
    show _ = _
    unfold choicesB
    rw [Pm.choices_length s.ws _ 0]
    rfl
  have HCHO := hide (fchoose_any HP5.out hs40 hs8 HMA.out (by omega))
  rw [HMAY.out] at HCHO
  have HFL := hide (Nat.le_trans (fates_length s.ws 0) hs40)
  have hnf : (Pm.fates s).length ≤ 40000 := HFL.out
  have HKP := hide (fun W (hb : Below w5.heap.size w5 W) => HP5.out.kept hb.size (fun k _ hk => hb.block k hk))
  have HB5 := hide (HB2.out.trans (HB25.out.mono HB2.out.size))
  have HNOD := hide (Pm.images_nodup s.ws)
  have HPRD : Hid (Pm.counted (Pm.fates s) ≤ 64 → Pm.counted (Pm.fates s) = (Pm.images s.ws).length) := fun h => by
    have e : Pm.prod ((Pm.fates s).map fun f => f.vals.length) = (Pm.images s.ws).length := Pm.fates_prod s.ws 0
    unfold Pm.counted at h ⊢
    omega
  clear HP2 HP3 HP5 HB24 HB25 HB23 HB3 HB1 HB2
  obtain ⟨N8, hN8⟩ : ∃ N8, 8 * s.ws.length = N8 := ⟨_, rfl⟩
  rw [hN8] at HMA HCHO ⊢
  have hN8b : N8 ≤ 192 := by omega
  have HN8 := hide hN8
  clear hN8
  generalize choicesB s (octs L) = CH at *
  have HMY := hide (fun W (hb : Below w5.heap.size w5 W) => fmay_any (HKP.out W hb) hs40 hs8 (HMA.out.below hb) (by omega))
  rw [HMAY.out] at HMY
  have HFT := hide (fun W (hb : Below w5.heap.size w5 W) => pfates_any (HKP.out W hb) hs40)
  have HCT := hide (fun W (hb : Below w5.heap.size w5 W) => fcount_any (HKP.out W hb) hs40)
  go_wp2_with fail
  refine HCHO.out.mono ?_
  rintro e w6 ⟨v, rfl, _, hv, hb6⟩
  obtain ⟨la, lc, rfl⟩ := own_len (hv (by first | rfl | trivial))
  have HB6 := hide hb6
  clear hv hb6
  rw [HNF.out]
  generalize hnfe : (Pm.fates s).length = nf at *
  go_wp2_with fail
  refine (HMY.out _ HB6.out).mono ?_
  rintro e w7 ⟨rfl, hb7⟩
  have HB7 := hide (HB6.out.trans (hb7.mono HB6.out.size))
  clear hb7
  go_wp2_with fail
  refine (HFT.out _ HB7.out).mono ?_
  rintro e w8 ⟨fa, fc, rfl, _, _, hb8⟩
  have HB8 := hide (HB7.out.trans (hb8.mono HB7.out.size))
  clear hb8
  by_cases hc : Pm.counted (Pm.fates s) ≤ 64
  · have HAL := hide (fall_few (HKP.out w8 HB8.out) hs40 64 (by omega) hc)
    have hLEN := HPRD.out hc
    have HLEN := hide hLEN
    have hcI : ¬ (64 : Int) < (Pm.counted (Pm.fates s) : Int) := by omega
    clear hLEN
    generalize Pm.counted (Pm.fates s) = q at *
    go_wp2_with fail
    refine HAL.out.mono ?_
    rintro e w9 ⟨v9, rfl, him, hb9⟩
    obtain ⟨va, vc, rfl⟩ := him.form
    have HB9 := hide (HB8.out.trans (hb9.mono HB8.out.size))
    have HIM9 := hide him
    clear him hb9
    go_wp2_with fail
    refine (HCT.out _ HB9.out).mono ?_
    rintro e w10 ⟨rfl, hb10⟩
    have HB10 := hide (HB9.out.trans (hb10.mono HB9.out.size))
    have HIM := hide (HIM9.out.below hb10)
    clear hb10
    rw [← HLEN.out]
    go_wp2_with fail
    go_loopw [15, 16] (fun u i wr => ∃ k : Nat, k ≤ q ∧ i = .int .i64 k ∧ u = .int .i64 (tally (Pm.images s.ws) L k) ∧ Below w10.heap.size w10 wr) (fun _ i _ => q - (intOf i).toNat)
    case atStart => exact ⟨0, Nat.zero_le _, rfl, rfl, Below.refl _ _⟩
    case round =>
      obtain ⟨k, hk, rfl, rfl, hb⟩ := hrel
      have HB := hide hb
      have htl := tally_le (Pm.images s.ws) L k
      by_cases hlt : k < q
      · have hkn : (k : Int) < (q : Int) := by omega
        obtain ⟨M, hM⟩ : ∃ M, (Pm.images s.ws)[k]? = some M := ⟨_, List.getElem?_eq_getElem (by rw [← HLEN.out]; exact hlt)⟩
        obtain ⟨ga, cc, g, hv, hgaw, hcell, hgc⟩ := (HIM.out.below hb).at hM
        cases hv
        have hMm := List.mem_of_getElem? hM
        have hMl := Pm.images_mem_length hMm
        have hst := tally_step (L := L) hM
        rw [hMl, HN8.out] at hcell
        have hrowM : Row .u8 wr (some ⟨g, 0, none⟩) N8 (octs M) := row_of_block hgc (by rw [octs_length, hMl, HN8.out])
        have hrowL := (HMA.out.below HB10.out).below hb
        have HC1 := hide (fun W (h : Below wr.heap.size wr W) => conv_bytes N8 (hrowM.below h))
        have HC2 := hide (fun W (h : Below wr.heap.size wr W) => conv_bytes N8 (hrowL.below h).2.2.1)
        have HC0 := hide (fun W (h : Below wr.heap.size wr W) => (h.cell (p := ⟨ga, k, none⟩) hgaw).trans hcell)
        have BD : Hid (Below wr.heap.size wr wr.drew) := ⟨rfl, rfl, rfl, Nat.le_refl _, fun _ _ => rfl⟩
        have B0 : Hid (Below wr.heap.size wr wr) := Below.refl _ _
        have HNE : Hid (¬ M = L → ¬ strOfNums (octs M) = strOfNums (octs L)) := fun hne e => hne (octs_inj (by rw [hMl, HLL.out]) (images_bd HOK.out hMm) HLB.out (str_inj (octs_bytes _) (octs_bytes _) e))
        have c0 := HC0.out _ B0.out
        have c1 := HC1.out _ B0.out
        have c2 := HC2.out _ B0.out
        clear hcell hgc hM hMm hMl hrowM hrowL hb
        by_cases hML : M = L
        · rw [if_pos hML] at hst
          have HST := hide hst
          subst hML
          clear hst
          generalize tally (Pm.images s.ws) M k = tk at *
          generalize strOfNums (octs M) = T at *
          go_wp2_with fail
          go_region_held_law (fun w' => w'.cell? ⟨ga, k, none⟩ = some (.slice (some ⟨g, 0, none⟩) N8 N8) ∧ (convert 38 9 (.slice (some ⟨g, 0, none⟩) N8 N8)).run Try.prog w' = .ok (.string T) w' ∧ (convert 38 9 (.slice (some ⟨mg, 0, none⟩) N8 N8)).run Try.prog w' = .ok (.string T) w')
            (first
              | exact ⟨HC0.out _ BD.out, HC1.out _ BD.out, HC2.out _ BD.out⟩
              | exact ⟨c0, c1, c2⟩)
            (fail)
          all_goals
            go_wp2_with fail
            go_roundw
            case rel => exact ⟨k + 1, by omega, by go_num, by rw [HST.out]; go_num, HB.out.drew⟩
            case measure => simp [intOf]; omega
        · rw [if_neg hML] at hst
          have HST := hide hst
          have hne := HNE.out hML
          have hbeq := str_ne hne
          clear hst
          generalize tally (Pm.images s.ws) L k = tk at *
          generalize strOfNums (octs M) = X at *
          generalize strOfNums (octs L) = T at *
          go_wp2_with fail
          go_region_held_law (fun w' => w'.cell? ⟨ga, k, none⟩ = some (.slice (some ⟨g, 0, none⟩) N8 N8) ∧ (convert 38 9 (.slice (some ⟨g, 0, none⟩) N8 N8)).run Try.prog w' = .ok (.string X) w' ∧ (convert 38 9 (.slice (some ⟨mg, 0, none⟩) N8 N8)).run Try.prog w' = .ok (.string T) w')
            (first
              | exact ⟨HC0.out _ BD.out, HC1.out _ BD.out, HC2.out _ BD.out⟩
              | exact ⟨c0, c1, c2⟩)
            (fail)
          all_goals
            go_wp2_with fail
            go_roundw
            case rel => exact ⟨k + 1, by omega, by go_num, by rw [HST.out]; rfl, HB.out.drew⟩
            case measure => simp [intOf]; omega
      · have hkn : ¬ (k : Int) < (q : Int) := by omega
        obtain rfl : k = q := by omega
        have HONE : Hid (tally (Pm.images s.ws) L k = 1) := by
          show _ = _
          rw [HLEN.out]
          exact tally_all HNOD.out HMEM.out
        rw [HONE.out]
        have HBE := hide (HB5.out.trans ((HB10.out.trans (hb.mono HB10.out.size)).mono HB5.out.size))
        clear hb htl
        go_wp2_with fail
        go_ret
        exact ⟨rfl, HBE.out⟩
  · have HAL := hide (fall_many (HKP.out w8 HB8.out) hs40 64 (.inr (by omega)))
    have hcI : (64 : Int) < (Pm.counted (Pm.fates s) : Int) := by omega
    generalize Pm.counted (Pm.fates s) = q at *
    go_wp2_with fail
    refine HAL.out.mono ?_
    rintro e w9 ⟨rfl, hb9⟩
    have HB9 := hide (HB8.out.trans (hb9.mono HB8.out.size))
    clear hb9
    go_wp2_with fail
    refine (HCT.out _ HB9.out).mono ?_
    rintro e w10 ⟨rfl, hb10⟩
    have HB10 := hide (HB5.out.trans ((HB9.out.trans (hb10.mono HB9.out.size)).mono HB5.out.size))
    clear hb10
    go_wp2_with fail
    go_ret
    exact ⟨rfl, HB10.out⟩

theorem fatecrashes_own {w : World} {n : Int} (hn : (Lit.int .u8 n).wf = true) {a : Option Addr} {len cap : Nat} {xs : List Ac} (hA : Acts w a len cap xs) {p : Option Addr} {pl pc : Nat} {ch : List Int} (hI : Arg .i64 w p pl pc ch) :
    Calls Try.prog 6 #[.int .u8 n, .slice a len cap, .slice p pl pc] w fun e w' => e = .returned (.bool true) ∧ Below w.heap.size w w' := by
  obtain ⟨h0, h1⟩ := bd_u8 hn
  obtain ⟨l, rfl⟩ : ∃ l : Nat, n = (l : Int) := ⟨n.toNat, by omega⟩
  by_cases h : 60 < pl
  · exact crashes_great l h
  · cases hs : smallB xs 40 with
    | false => exact crashes_nil l (by omega) hA (by omega) hs
    | true => exact crashes_some l (by omega) hA hI (by omega) hs
end Go.Proofs.Ytnaenokegomoeaa
