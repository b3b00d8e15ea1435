/-
  Layer 6's statements: FateAll.
-/
import Derived.Test.YtnaenokegomoeaaFtLawD
namespace Go.Proofs.Ytnaenokegomoeaa
set_option linter.unusedVariables false
set_option linter.unusedSimpArgs false
open Go.RowKit

set_option maxRecDepth 100000 in
set_option maxHeartbeats 1000000 in
theorem all_nil {w : World} (l : Nat) (hl : l ≤ 255) {a : Option Addr} {len cap : Nat} {xs : List Ac} (hA : Acts w a len cap xs) (most : Int) (hs : smallB xs 40 = false) :
    Calls Try.prog 7 #[.int .u8 l, .slice a len cap, .int .i64 most] w fun e w' => e = .returned (.bool true) ∧ Below w.heap.size w w' := by
  have HAW := hide (fun W => fawake_any W)
  have HA := hide hA
  clear hA
  go_enter Try.func7, Try.ntmps7
  go_wp2_with fail
  refine (HAW.out _).mono ?_
  rintro e w1 ⟨rfl, hb1⟩
  have HB1 := hide hb1
  clear hb1
  go_wp2_with fail
  refine (made_no l hl (HA.out.below HB1.out) hs).mono ?_
  rintro e w2 ⟨rfl, hb2⟩
  have HB2 := hide (HB1.out.trans (hb2.mono HB1.out.size))
  clear hb2
  go_wp2_with fail
  go_ret
  exact ⟨rfl, HB2.out⟩

set_option maxRecDepth 100000 in
set_option maxHeartbeats 8000000 in
theorem all_some {w : World} (l : Nat) (hl : l ≤ 255) {a : Option Addr} {len cap : Nat} {xs : List Ac} (hA : Acts w a len cap xs) (most : Int) (hs : smallB xs 40 = true) :
    Calls Try.prog 7 #[.int .u8 l, .slice a len cap, .int .i64 most] w fun e w' => e = .returned (.bool true) ∧ Below w.heap.size w w' := by
  have HAW := hide (fun W => fawake_any W)
  have HA := hide hA
  have HLN := hide (small_len hA (l % 4) hs)
  clear hA
  go_enter Try.func7, Try.ntmps7
  go_wp2_with fail
  refine (HAW.out _).mono ?_
  rintro e w1 ⟨rfl, hb1⟩
  have HB1 := hide hb1
  clear hb1
  go_wp2_with fail
  refine (made_yes l hl (HA.out.below HB1.out) hs).mono ?_
  rintro e w2 ⟨b, c, rfl, hbo, hb2⟩
  obtain ⟨s, hS⟩ : ∃ s, madeD (l % 4) xs = s := ⟨_, rfl⟩
  rw [hS] at hbo HLN
  have hs40 : s.ws.length ≤ 40000 := by have := HLN.out; omega
  have hs3 : s.ws.length ≤ 24 := by have := HLN.out; omega
  have HB2 := hide (HB1.out.trans (hb2.mono HB1.out.size))
  obtain ⟨F, G, g0, g1, g2, g3, pa, pc, hP, hR, _, _, _⟩ := hbo
  have HKP := hide (fun W (hb : Below w2.heap.size w2 W) => hP.kept hb.size (fun k _ hk => hb.block k hk))
  have HKR := hide (fun W (hb : Below w2.heap.size w2 W) => hR.kept hb.size (fun k _ hk => hb.block k hk))
  have HIM := hide (fun W (hb : Below w2.heap.size w2 W) => pimage_any (HKP.out W hb) hs40)
  have HVW := hide (fun W (hb : Below w2.heap.size w2 W) => pview_any (HKP.out W hb) hs40)
  have HRC := hide (fun W (hb : Below w2.heap.size w2 W) => rcount_any (HKR.out W hb) hs40)
  have HRI := hide (fun W (hb : Below w2.heap.size w2 W) (k : Nat) (hk : k ≤ 1000000) => rimage_any (HKR.out W hb) hs40 k hk)
  clear hP hR hb2 hS HLN HB1
  obtain ⟨T0, hT0⟩ : ∃ T, strOfNums (octs (Pm.lastL s.ws)) = T := ⟨_, rfl⟩
  obtain ⟨T1, hT1⟩ : ∃ T, strOfNums (octs (Pm.storedL s.ws)) = T := ⟨_, rfl⟩
  have HC0 := hide (fun W (a : Option Addr) (l cp : Nat) (h : Row .u8 W a l (octs (Pm.lastL s.ws))) => conv_bytes cp h)
  have HC1 := hide (fun W (a : Option Addr) (l cp : Nat) (h : Row .u8 W a l (octs (Pm.storedL s.ws))) => conv_bytes cp h)
  rw [hT0] at HC0
  rw [hT1] at HC1
  have hz0 : T0.size ≤ 192 := by rw [← hT0, size_str, octs_length, lastL_len]; omega
  have hz1 : T1.size ≤ 192 := by rw [← hT1, size_str, octs_length, storedL_len]; omega
  have hzq : ¬ 9223372036854775807 < T0.size + T1.size := by omega
  have BD : Hid (Below w2.heap.size w2 w2.drew) := ⟨rfl, rfl, rfl, Nat.le_refl _, fun _ _ => rfl⟩
  have hsz := Nat.le_refl w2.heap.size
  clear hT0 hT1
  go_wp2_with fail
  go_cut [9] from 23 to 71 (fun u wx => u = .string (T0 ++ T1) ∧ Below w2.heap.size w2 wx)
  case first =>
    go_region_held_law (fun w' => w2.heap.size ≤ w'.heap.size)
      (first
        | exact hb10.size
        | exact hb8.size
        | exact hsz)
      (first
        | (go_at_call 20; refine (HIM.out _ BD.out).mono ?_; rintro e w8 ⟨ay, cy, rfl, hcy, hr8, hb8'⟩; have hb8 := BD.out.trans hb8'; have hcv8 := HC0.out w8 ay _ cy hr8; clear hb8')
        | (go_at_call 23; refine (HVW.out _ hb8).mono ?_; rintro e w10 ⟨az, cz, rfl, hcz, hr10, hb10'⟩; have hb10 := hb8.trans (hb10'.mono hb8.size); have hcv10 := HC1.out w10 az _ cz hr10; have hcw10 := HC0.out w10 ay _ cy (hr8.below hb10'); clear hb10' hr10))
    all_goals
      go_wp2_with fail
      go_meet
      case rel => exact ⟨rfl, hb10⟩
  case rest =>
    obtain ⟨rfl, hb10⟩ := hcut
    have HBC := hide hb10
    clear hb10
    by_cases hmany : most < (Pm.counted (Pm.fates s) : Int) ∨ 64 < Pm.counted (Pm.fates s)
    · have HAL := hide (fall_many (HKP.out wc HBC.out) hs40 most hmany)
      obtain ⟨q, hq⟩ : ∃ q, Pm.counted (Pm.fates s) = q := ⟨_, rfl⟩
      rw [hq] at hmany HRC
      clear hq
      go_wp2_with fail
      refine HAL.out.mono ?_
      rintro e w3 ⟨rfl, hb3⟩
      have HB3 := hide (HBC.out.trans (hb3.mono HBC.out.size))
      clear hb3
      go_wp2_with fail
      refine (HRC.out _ HB3.out).mono ?_
      rintro e w4 ⟨rfl, hb4⟩
      have HB4 := hide (HB2.out.trans ((HB3.out.trans (hb4.mono HB3.out.size)).mono HB2.out.size))
      clear hb4
      by_cases h1 : most < (q : Int)
      · go_wp2_with fail
        go_ret
        exact ⟨rfl, HB4.out⟩
      · have h2 : (64 : Int) < (q : Int) := by omega
        go_wp2_with fail
        go_ret
        exact ⟨rfl, HB4.out⟩
    · have hc1 : (Pm.counted (Pm.fates s) : Int) ≤ most := by omega
      have hc2 : Pm.counted (Pm.fates s) ≤ 64 := by omega
      have HAL := hide (fall_few (HKP.out wc HBC.out) hs40 most hc1 hc2)
      have hLEN : Pm.counted (Pm.fates s) = (Pm.images s.ws).length := by
        have e : Pm.prod ((Pm.fates s).map fun f => f.vals.length) = (Pm.images s.ws).length := Pm.fates_prod s.ws 0
        unfold Pm.counted at hc2 ⊢
        omega
      have HLEN := hide hLEN
      obtain ⟨q, hq⟩ : ∃ q, Pm.counted (Pm.fates s) = q := ⟨_, rfl⟩
      rw [hq] at hc1 hc2 HLEN HRC
      have h1 : ¬ most < (q : Int) := by omega
      have h2 : ¬ (64 : Int) < (q : Int) := by omega
      clear hq hLEN hmany
      go_wp2_with fail
      refine HAL.out.mono ?_
      rintro e w3 ⟨v3, rfl, him, hb3⟩
      obtain ⟨va, vc, rfl⟩ := him.form
      have HB3 := hide (HBC.out.trans (hb3.mono HBC.out.size))
      have HI3 := hide him
      clear hb3 him
      rw [← HLEN.out]
      go_wp2_with fail
      refine (HRC.out _ HB3.out).mono ?_
      rintro e w4 ⟨rfl, hb4⟩
      have HB4 := hide (HB3.out.trans (hb4.mono HB3.out.size))
      have HI4 := hide (HI3.out.below hb4)
      clear hb4
      go_wp2_with fail
      go_loopw [12] (fun i wr => ∃ k : Nat, k ≤ q ∧ i = .int .i64 k ∧ Below w4.heap.size w4 wr) (fun i _ => q - (intOf i).toNat)
      case atStart => exact ⟨0, Nat.zero_le _, rfl, Below.refl _ _⟩
      case round =>
        obtain ⟨k, hk, rfl, hb⟩ := hrel
        have HB := hide hb
        by_cases hlt : k < q
        · have hkn : (k : Int) < (q : Int) := by omega
          have hM := Pm.image_at (ws := s.ws) (k := k) (by rw [← HLEN.out]; exact hlt)
          obtain ⟨ga, cc, g, hv, hgaw, hcell, hgc⟩ := (HI4.out.below hb).at hM
          cases hv
          have hMl := Pm.images_mem_length (List.mem_of_getElem? hM)
          rw [hMl] at hcell
          have hrowM : Row .u8 wr (some ⟨g, 0, none⟩) (8 * s.ws.length) (octs (Pm.imageAt s.ws k).1) := row_of_block hgc (by rw [octs_length, hMl])
          have HBR := hide (HB4.out.trans (hb.mono HB4.out.size))
          have HC2 := hide (fun W (h : Below wr.heap.size wr W) => conv_bytes (8 * s.ws.length) (hrowM.below h))
          have HC3 := hide (fun W (h : Below wr.heap.size wr W) => (h.cell (p := ⟨ga, k, none⟩) hgaw).trans hcell)
          have BDr : Hid (Below wr.heap.size wr wr.drew) := ⟨rfl, rfl, rfl, Nat.le_refl _, fun _ _ => rfl⟩
          have B0r : Hid (Below wr.heap.size wr wr) := Below.refl _ _
          have HRI2 : Hid (∀ W, Below wr.heap.size wr W → Calls Try.prog 24 #[.pointer (some ⟨c, 0, none⟩), .int .i64 k] W fun e w' => e = .returned (.string (strOfNums (octs (Pm.imageAt s.ws k).1))) ∧ Below W.heap.size W w') := fun W hW => HRI.out W (HBR.out.trans (hW.mono HBR.out.size)) k (by omega)
          generalize strOfNums (octs (Pm.imageAt s.ws k).1) = X at *
          generalize 8 * s.ws.length = N8 at *
          have c0 := HC3.out _ B0r.out
          have c1 := HC2.out _ B0r.out
          clear hcell hgc hM hMl hrowM hb
          go_wp2_with fail
          go_region_held_law (fun w' => w'.cell? ⟨ga, k, none⟩ = some (.slice (some ⟨g, 0, none⟩) N8 N8) ∧ (convert 38 9 (.slice (some ⟨g, 0, none⟩) N8 N8)).run Try.prog w' = .ok (.string X) w')
            (first
              | exact ⟨HC3.out _ hb6, HC2.out _ hb6⟩
              | exact ⟨HC3.out _ BDr.out, HC2.out _ BDr.out⟩
              | exact ⟨c0, c1⟩)
            (first
              | (go_at_call 24; refine (HRI2.out _ BDr.out).mono ?_; rintro e w6 ⟨rfl, hb6'⟩; have hb6 := BDr.out.trans hb6'; clear hb6'))
          all_goals
            have HB6 := hide (HB.out.trans (hb6.mono HB.out.size))
            clear hb6
            go_wp2_with fail
            go_roundw
            case rel => exact ⟨k + 1, by omega, by go_num, HB6.out⟩
            case measure => simp [intOf]; omega
        · have hkn : ¬ (k : Int) < (q : Int) := by omega
          have hbr := HB4.out.trans (hb.mono HB4.out.size)
          have HBR := hide hbr
          have HIM2 := hide (fun W (h : Below wr.heap.size wr W) => HIM.out W (hbr.trans (h.mono hbr.size)))
          have HVW2 := hide (fun W (h : Below wr.heap.size wr W) => HVW.out W (hbr.trans (h.mono hbr.size)))
          have BDr : Hid (Below wr.heap.size wr wr.drew) := ⟨rfl, rfl, rfl, Nat.le_refl _, fun _ _ => rfl⟩
          have hszr := Nat.le_refl wr.heap.size
          clear hb hbr
          go_wp2_with fail
          go_region_held_law (fun w' => wr.heap.size ≤ w'.heap.size)
            (first
              | exact hb10.size
              | exact hb8.size
              | exact hszr)
            (first
              | (go_at_call 20; refine (HIM2.out _ BDr.out).mono ?_; rintro e w8 ⟨ay, cy, rfl, hcy, hr8, hb8'⟩; have hb8 := BDr.out.trans hb8'; have hcv8 := HC0.out w8 ay _ cy hr8; clear hb8')
              | (go_at_call 23; refine (HVW2.out _ hb8).mono ?_; rintro e w10 ⟨az, cz, rfl, hcz, hr10, hb10'⟩; have hb10 := hb8.trans (hb10'.mono hb8.size); have hcv10 := HC1.out w10 az _ cz hr10; have hcw10 := HC0.out w10 ay _ cy (hr8.below hb10'); clear hb10' hr10))
          all_goals
            have HBE := hide (HB2.out.trans ((HBR.out.trans (hb10.mono HBR.out.size)).mono HB2.out.size))
            clear hb10 hb8 hr8 hcv8 hcv10 hcw10
            go_wp2_with fail
            go_ret
            exact ⟨rfl, HBE.out⟩

theorem fateall_own {w : World} {n : Int} (hn : (Lit.int .u8 n).wf = true) {a : Option Addr} {len cap : Nat} {xs : List Ac} (hA : Acts w a len cap xs) (most : Int) :
    Calls Try.prog 7 #[.int .u8 n, .slice a len cap, .int .i64 most] w fun e w' => e = .returned (.bool true) ∧ Below w.heap.size w w' := by
  obtain ⟨h0, h1⟩ := bd_u8 hn
  obtain ⟨l, rfl⟩ : ∃ l : Nat, n = (l : Int) := ⟨n.toNat, by omega⟩
  cases hs : smallB xs 40 with
  | false => exact all_nil l (by omega) hA most hs
  | true => exact all_some l (by omega) hA most hs
end Go.Proofs.Ytnaenokegomoeaa
