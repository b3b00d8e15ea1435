/-
  Layer 5's statements: PmemPower.
-/
import Derived.Test.YtjkiehfjbldkkaaPmLawS
namespace Go.Proofs.Ytjkiehfjbldkkaa
set_option linter.unusedVariables false
set_option linter.unusedSimpArgs false
open Go.RowKit

set_option maxHeartbeats 1000000 in
theorem power_great {w : World} (n : Int) {a : Option Addr} {len cap : Nat} {xs : List Ac} (hA : Acts w a len cap xs) (h : smallB xs 40 = false) :
    Calls Try.prog 7 #[.int .i64 n, .slice a len cap] w fun e w' => e = .returned (.bool true) ∧ Below w.heap.size w w' := by
  have HA := hide hA
  clear hA
  go_enter Try.func7, Try.ntmps7
  go_wp2_with fail
  refine (awake_any _).mono ?_
  rintro e w1 ⟨rfl, hb1⟩
  have HB1 := hide hb1
  clear hb1
  go_wp2_with fail
  refine (small_any (HA.out.below HB1.out) 40 (by decide)).mono ?_
  rintro e w2 ⟨rfl, hb2⟩
  have HB2 := hide (HB1.out.trans (hb2.mono HB1.out.size))
  clear hb2
  go_wp2_with fail
  refine (awake_any _).mono ?_
  rintro e w3 ⟨rfl, hb3⟩
  have HB3 := hide (HB2.out.trans (hb3.mono HB2.out.size))
  clear hb3
  go_wp2_with fail
  go_ret
  exact ⟨rfl, HB3.out⟩

/-- the power counts down: what holds of the device while its acts are done. -/
structure Counts (k : Nat) (s : Pm.D) : Prop where
  len : s.ws.length = 24
  plan : s.plan.length ≤ 40
  left : s.left = (k : Int) - s.steps
  le : s.steps ≤ k
theorem Counts.up {k : Nat} {s : Pm.D} (h : Counts k s) : (s.left != 0) = decide ((s.steps : Int) < (k : Int)) := by
  have h1 := h.left
  have h2 := h.le
  by_cases e : s.left = 0
  · rw [show (s.left != 0) = false by simp [e]]
    symm
    simp
    omega
  · rw [show (s.left != 0) = true by simp [e]]
    symm
    simp
    omega
theorem Counts.act {k : Nat} {s : Pm.D} (h : Counts k s) (a : Pm.A) (h4 : a.kind % 7 ≠ 4) (h6 : a.kind % 7 ≠ 6) (hl : a.l.length ≤ 40) : Counts k (Pm.act s a) := by
  obtain ⟨h1, h2⟩ := Pm.power_act ⟨h.left, h.le⟩ a h4 h6
  refine ⟨by rw [Pm.act_length]; exact h.len, ?_, h1, h2⟩
  rcases act_plan s a with e | e | e
  · rw [e]; exact h.plan
  · rw [e]; exact hl
  · rw [e]; simp
theorem counts_new (k : Nat) : Counts k (Pm.arm (Pm.new (8 * 3)) k) := by
  have e : Pm.arm (Pm.new (8 * 3)) k = ⟨List.replicate 24 (Pm.still 0), [], 0, k, 0⟩ := by
    unfold Pm.arm Pm.new
    simp
  rw [e]
  refine ⟨by simp, by simp, by simp, by simp⟩

set_option maxRecDepth 100000 in
set_option maxHeartbeats 4000000 in
theorem power_yes {w : World} (n : Int) (hn : (Lit.int .i64 n).wf = true) {a : Option Addr} {len cap : Nat} {xs : List Ac} (hA : Acts w a len cap xs) (h : smallB xs 40 = true) :
    Calls Try.prog 7 #[.int .i64 n, .slice a len cap] w fun e w' => e = .returned (.bool true) ∧ Below w.heap.size w w' := by
  have HA := hide hA
  have HSM : Hid (xs.length ≤ 40 ∧ ∀ x ∈ xs, x.len ≤ 40) := by
    show _ ∧ _
    unfold smallB at h
    simpa using h
  have hlen := hA.1
  have hl40 : len ≤ 40 := by have := HSM.out.1; omega
  have HN := hide (fun W => new_own W 3 (by decide))
  have HR := hide (fun W => rest_any n 30 W (by decide) (by decide) hn)
  obtain ⟨m, hm⟩ : ∃ m : Nat, n % 30 = (m : Int) := ⟨(n % 30).toNat, by omega⟩
  have hm30 : m < 30 := by omega
  rw [hm] at HR
  clear hA hm hn
  go_enter Try.func7, Try.ntmps7
  go_wp2_with fail
  refine (awake_any _).mono ?_
  rintro e w1 ⟨rfl, hb1⟩
  have HB1 := hide hb1
  clear hb1
  go_wp2_with fail
  refine (small_any (HA.out.below HB1.out) 40 (by decide)).mono ?_
  rintro e w2 ⟨rfl, hb2⟩
  have HB2 := hide (HB1.out.trans (hb2.mono HB1.out.size))
  clear hb2
  go_wp2_with fail
  refine (HN.out _).mono ?_
  rintro e w3 ⟨b, rfl, hP, hb3⟩
  have HB3 := hide (HB2.out.trans (hb3.mono HB2.out.size))
  have HP : Hid (POwn w.heap.size w3 b (Pm.new (8 * 3))) := by
    obtain ⟨F, q1, q2⟩ := hP
    exact ⟨F, q1, fun k hk => ⟨Nat.le_trans HB2.out.size (q2 k hk).1, (q2 k hk).2⟩⟩
  clear hP hb3
  go_wp2_with fail
  refine (HR.out _).mono ?_
  rintro e w4 ⟨rfl, hw⟩
  obtain rfl := hw.symm
  go_wp2_with fail
  refine (arm_own HP.out HB3.out.size m (wf_of_bd ⟨by omega, by omega⟩)).mono ?_
  rintro e w5 ⟨rfl, hP, hb5⟩
  have HP5 := hide hP
  have HB5 := hide (HB3.out.trans hb5)
  have HC := hide (counts_new m)
  clear hP hb5
  go_wp2_with fail
  go_loopw [8] (fun i wr => ∃ (k : Nat) (s : Pm.D), k ≤ len ∧ i = .int .i64 k ∧ Counts m s ∧ POwn w.heap.size wr b s ∧ Below w.heap.size w wr) (fun i _ => len - (intOf i).toNat)
  case atStart => exact ⟨0, _, Nat.zero_le _, rfl, HC.out, HP5.out, HB5.out⟩
  case round =>
    obtain ⟨k, s, hk, rfl, hcs, hpo, hbr⟩ := hrel
    have HBr := hide hbr
    have HPo := hide hpo
    have HCs := hide hcs
    have hm24 : s.ws.length ≤ 40000 := by rw [hcs.len]; omega
    have hst : s.steps ≤ 30 := by have := hcs.le; omega
    clear hpo hcs
    by_cases hlt : k < len
    · have hkn : (k : Int) < (len : Int) := by omega
      have hkx : k < xs.length := by omega
      obtain ⟨x, hx⟩ : ∃ x, xs[k]? = some x := ⟨_, List.getElem?_eq_getElem hkx⟩
      have hxm := List.mem_of_getElem? hx
      have hx40 := HSM.out.2 x hxm
      have hxok := HA.out.2.2.2.1 x hxm
      have hxl : x.l.length = x.len := hxok.2.2.2.2.2.1.1
      have hAB : 0 < x.len → ∀ y, x.a = some y → y.block < w.heap.size := arg_block hxok.2.2.2
      obtain ⟨_, _, _, _, h5⟩ := HA.out.below hbr
      rcases h5 with h5 | ⟨ga, off, rfl, hgw, hc⟩
      · omega
      obtain ⟨q0, q1, q2, q3⟩ := hc k x hx
      have hga : ga < w.heap.size := by
        obtain ⟨_, _, _, _, h5'⟩ := HA.out
        rcases h5' with h5' | ⟨ga', off', e, hg', _⟩
        · omega
        · cases e
          exact hg'
      have HRK := hide (fun W => rest_any x.kind 7 W (by decide) (by decide) hxok.1)
      by_cases h46 : x.kind % 7 = 4 ∨ x.kind % 7 = 6
      · obtain ⟨xk, xat, xw, xa, xlen, xcap, xl⟩ := x
        simp only at q0 q1 q2 q3 HRK h46
        clear hc hbr hxok hxm hx hx40 hxl hAB
        rcases h46 with h46 | h46
        all_goals
          rw [h46] at HRK
          clear h46
          go_wp2_with fail
          refine (HRK.out _).mono ?_
          rintro e W0 ⟨rfl, hw⟩
          obtain rfl := hw.symm
          go_wp2_with fail
          go_roundw
          case rel => exact ⟨k + 1, s, by omega, by go_num, HCs.out, HPo.out, HBr.out⟩
          case measure => simp [intOf]; omega
      · have h4 : ¬ x.kind % 7 = 4 := fun e => h46 (.inl e)
        have h6 : ¬ x.kind % 7 = 6 := fun e => h46 (.inr e)
        have HDO := hide (fun W (hb : Below w.heap.size w W) (hW : POwn w.heap.size W b s) => do_own hW hb.size hm24 (by have := HCs.out.plan; omega) (by omega) x (ok_below hxok hb) (by omega) hAB)
        have HCN := hide (HCs.out.act x.plain h4 h6 (show x.l.length ≤ 40 by omega))
        have HOF := hide (fun hl : s.left = 0 => Pm.off_act hl x.plain h4 h6)
        have hcl : x.cells.toArray = #[.int .i64 x.kind, .int .i64 x.at', .int .u64 x.w, .slice x.a x.len x.cap] := rfl
        rw [hcl] at HDO
        have HQ := hide (fun W (hb : Below wr.heap.size wr W) => (⟨(hb.cell (p := ⟨ga, off + k * 4, none⟩) (Nat.lt_of_lt_of_le hga HBr.out.size)).trans q0, (hb.cell (p := ⟨ga, off + k * 4 + 1, none⟩) (Nat.lt_of_lt_of_le hga HBr.out.size)).trans q1, (hb.cell (p := ⟨ga, off + k * 4 + 2, none⟩) (Nat.lt_of_lt_of_le hga HBr.out.size)).trans q2, (hb.cell (p := ⟨ga, off + k * 4 + 3, none⟩) (Nat.lt_of_lt_of_le hga HBr.out.size)).trans q3⟩ : W.cell? ⟨ga, off + k * 4, none⟩ = some (.int .i64 x.kind) ∧ W.cell? ⟨ga, off + k * 4 + 1, none⟩ = some (.int .i64 x.at') ∧ W.cell? ⟨ga, off + k * 4 + 2, none⟩ = some (.int .u64 x.w) ∧ W.cell? ⟨ga, off + k * 4 + 3, none⟩ = some (.slice x.a x.len x.cap)))
        have hxp : x.plain.kind = x.kind := rfl
        rw [hxp] at HOF
        generalize Pm.act s x.plain = s' at *
        generalize Pm.actV s x.plain = av at *
        generalize Pm.actE s x.plain = ae at *
        generalize x.kind % 7 = r at *
        obtain ⟨xk, xat, xw, xa, xlen, xcap, xl⟩ := x
        simp only at q0 q1 q2 q3 HDO HRK HQ
        clear hc hbr hxok hxm hcl hx hx40 hxl hAB hxp h46
        have HUP := hide (fun W (hb : Below wr.heap.size wr W) => (HPo.out.below hb).up)
        have HST := hide (fun W (hb : Below wr.heap.size wr W) => (HPo.out.below hb).steps)
        have HIM := hide (fun W (hb : Below wr.heap.size wr W) => (HPo.out.below hb).image hm24)
        have HVW := hide (fun W (hb : Below wr.heap.size wr W) => (HPo.out.below hb).view hm24)
        rw [HCs.out.len] at HIM HVW
        have hup := HCs.out.up
        obtain ⟨T0, hT0⟩ : ∃ T, strOfNums (octs (Pm.lastL s.ws)) = T := ⟨_, rfl⟩
        obtain ⟨T1, hT1⟩ : ∃ T, strOfNums (octs (Pm.storedL s.ws)) = T := ⟨_, rfl⟩
        have HC0 := hide (fun W (a : Option Addr) (l cp : Nat) (h : Row .u8 W a l (octs (Pm.lastL s.ws))) => conv_bytes cp h)
        have HC1 := hide (fun W (a : Option Addr) (l cp : Nat) (h : Row .u8 W a l (octs (Pm.storedL s.ws))) => conv_bytes cp h)
        rw [hT0] at HC0
        rw [hT1] at HC1
        have hz0 : T0.size = 192 := by rw [← hT0, size_str, octs_length, lastL_len, HCs.out.len]
        have hz1 : T1.size = 192 := by rw [← hT1, size_str, octs_length, storedL_len, HCs.out.len]
        have hzq : ¬ 9223372036854775807 < T0.size + T1.size := by omega
        have BD : Hid (Below wr.heap.size wr wr.drew) := ⟨rfl, rfl, rfl, Nat.le_refl _, fun _ _ => rfl⟩
        have hsz := Nat.le_refl wr.heap.size
        have HT0 := hide hT0
        have HT1 := hide hT1
        clear hT0 hT1
        have h4' : (r == 4) = false := beq_eq_false_iff_ne.2 h4
        have h6' : (r == 6) = false := beq_eq_false_iff_ne.2 h6
        have hle := HCs.out.le
        have hlf := HCs.out.left
        by_cases hl : s.left = 0
        · have hfl : (s.left != 0) = false := by simp [hl]
          rw [hfl] at HUP
          have hsm : ¬ (s.steps : Int) < (m : Int) := by omega
          obtain ⟨ow, ost, oe⟩ := HOF.out hl
          have hsN : s.steps = m := by omega
          clear hup hlf hle
          go_wp2_with fail
          refine (HRK.out _).mono ?_
          rintro e W0 ⟨rfl, hw⟩
          obtain rfl := hw.symm
          go_wp2_with fail
          go_cut [10, 11] from 33 to 101 (fun u v wx => u = .bool false ∧ v = .string (T0 ++ T1) ∧ Below wr.heap.size wr wx)
          case first =>
            go_region_held_law (fun w' => wr.heap.size ≤ w'.heap.size)
              (first
                | exact hb10.size
                | exact hb8.size
                | exact hsz)
              (first
                | (go_at_call 17; refine (HUP.out _ BD.out).mono ?_; rintro e w4 ⟨rfl, rfl⟩)
                | (go_at_call 21; refine (HIM.out _ BD.out).mono ?_; rintro e w8 ⟨ay, cy, rfl, hcy, hr8, hb8'⟩; have hb8 := BD.out.trans hb8'; have hcv8 := HC0.out w8 ay _ cy hr8; clear hb8')
                | (go_at_call 23; refine (HVW.out _ hb8).mono ?_; rintro e w10 ⟨az, cz, rfl, hcz, hr10, hb10'⟩; have hb10 := hb8.trans (hb10'.mono hb8.size); have hcv10 := HC1.out w10 az _ cz hr10; have hcw10 := HC0.out w10 ay _ cy (hr8.below hb10'); clear hb10' hr10))
            all_goals
              go_wp2_with fail
              go_meet
              case rel => exact ⟨rfl, rfl, hb10⟩
          case rest =>
            obtain ⟨rfl, rfl, hb10⟩ := hcut
            have HB10 := hide hb10
            have HP10 := hide (HPo.out.below hb10)
            have HBW := hide (HBr.out.trans (hb10.mono HBr.out.size))
            obtain ⟨q0, q1, q2, q3⟩ := HQ.out wc hb10
            clear hb10
            go_wp2_with (go_at_call 16; refine (HST.out _ HB10.out).mono ?_; rintro e w4 ⟨rfl, hw⟩; obtain rfl := hw.symm)
            refine (HDO.out wc HBW.out HP10.out).mono ?_
            rintro e W1 ⟨rfl, hp1, hb1⟩
            have HP1 := hide hp1
            have HBV := hide (HBW.out.trans hb1)
            have hm24' : s'.ws.length ≤ 40000 := by rw [ow]; exact hm24
            have HST1 := hide (fun W (hb : Below W1.heap.size W1 W) => (HP1.out.below hb).steps)
            have HIM1 := hide (fun W (hb : Below W1.heap.size W1 W) => (HP1.out.below hb).image hm24')
            have HVW1 := hide (fun W (hb : Below W1.heap.size W1 W) => (HP1.out.below hb).view hm24')
            rw [ow, HCs.out.len] at HIM1 HVW1
            rw [ost, hsN] at HST1
            have BD1 : Hid (Below W1.heap.size W1 W1.drew) := ⟨rfl, rfl, rfl, Nat.le_refl _, fun _ _ => rfl⟩
            have hsz1 := Nat.le_refl W1.heap.size
            clear hp1 hb1 q0 q1 q2 q3
            go_wp2_with fail
            go_cut [101] from 33 to 101 (fun u wx => u = .bool false ∧ Below W1.heap.size W1 wx)
            case first =>
              rcases (show r = 5 ∨ (¬ r = 5 ∧ ae = 3) by by_cases h5 : r = 5; exact .inl h5; exact .inr ⟨h5, oe h5⟩) with h5 | ⟨h5, hae⟩
              · subst h5
                first | (go_region_held_law (fun w' => W1.heap.size ≤ w'.heap.size)
                  (first
                    | exact hb12.size
                    | exact hb11.size
                    | exact hsz1)
                  (first
                    | (go_at_call 16; refine (HST1.out _ hb12).mono ?_; rintro e w4 ⟨rfl, rfl⟩)
                    | (go_at_call 21; refine (HIM1.out _ BD1.out).mono ?_; rintro e w11 ⟨ay, cy, rfl, hcy, hr11, hb11'⟩; have hb11 := BD1.out.trans hb11'; have hcv11 := HC0.out w11 ay _ cy hr11; clear hb11')
                    | (go_at_call 23; refine (HVW1.out _ hb11).mono ?_; rintro e w12 ⟨az, cz, rfl, hcz, hr12, hb12'⟩; have hb12 := hb11.trans (hb12'.mono hb11.size); have hcv12 := HC1.out w12 az _ cz hr12; have hcw12 := HC0.out w12 ay _ cy (hr11.below hb12'); clear hb12' hr12))) | fail
                all_goals
                  go_wp2_with fail
                  go_meet
                  case rel => exact ⟨rfl, hb12⟩
              · subst hae
                have h5' : (r != 5) = true := by simp [h5]
                go_region_held_law (fun w' => W1.heap.size ≤ w'.heap.size)
                  (first
                    | exact hb12.size
                    | exact hb11.size
                    | exact hsz1)
                  (first
                    | (go_at_call 16; refine (HST1.out _ hb12).mono ?_; rintro e w4 ⟨rfl, rfl⟩)
                    | (go_at_call 21; refine (HIM1.out _ BD1.out).mono ?_; rintro e w11 ⟨ay, cy, rfl, hcy, hr11, hb11'⟩; have hb11 := BD1.out.trans hb11'; have hcv11 := HC0.out w11 ay _ cy hr11; clear hb11')
                    | (go_at_call 23; refine (HVW1.out _ hb11).mono ?_; rintro e w12 ⟨az, cz, rfl, hcz, hr12, hb12'⟩; have hb12 := hb11.trans (hb12'.mono hb11.size); have hcv12 := HC1.out w12 az _ cz hr12; have hcw12 := HC0.out w12 ay _ cy (hr11.below hb12'); clear hb12' hr12))
                all_goals
                  go_wp2_with fail
                  go_meet
                  case rel => exact ⟨rfl, hb12⟩
            case rest =>
              obtain ⟨rfl, hb12⟩ := hcut
              have HPN := hide (HP1.out.below hb12)
              have HBN := hide (HBV.out.trans (hb12.mono HBV.out.size))
              clear hb12
              go_wp2_with fail
              go_roundw
              case rel => exact ⟨k + 1, s', by omega, by go_num, HCN.out, HPN.out, HBN.out⟩
              case measure => simp [intOf]; omega
        · have hfl : (s.left != 0) = true := by simp [hl]
          rw [hfl] at HUP
          have hsm : (s.steps : Int) < (m : Int) := by omega
          clear hup hlf hle
          go_wp2_with fail
          refine (HRK.out _).mono ?_
          rintro e W0 ⟨rfl, hw⟩
          obtain rfl := hw.symm
          go_wp2_with fail
          go_cut [10, 11] from 33 to 101 (fun u v wx => u = .bool true ∧ v = .string (T0 ++ T1) ∧ Below wr.heap.size wr wx)
          case first =>
            go_region_held_law (fun w' => wr.heap.size ≤ w'.heap.size)
              (first
                | exact hb10.size
                | exact hb8.size
                | exact hsz)
              (first
                | (go_at_call 17; refine (HUP.out _ BD.out).mono ?_; rintro e w4 ⟨rfl, rfl⟩)
                | (go_at_call 21; refine (HIM.out _ BD.out).mono ?_; rintro e w8 ⟨ay, cy, rfl, hcy, hr8, hb8'⟩; have hb8 := BD.out.trans hb8'; have hcv8 := HC0.out w8 ay _ cy hr8; clear hb8')
                | (go_at_call 23; refine (HVW.out _ hb8).mono ?_; rintro e w10 ⟨az, cz, rfl, hcz, hr10, hb10'⟩; have hb10 := hb8.trans (hb10'.mono hb8.size); have hcv10 := HC1.out w10 az _ cz hr10; have hcw10 := HC0.out w10 ay _ cy (hr8.below hb10'); clear hb10' hr10))
            all_goals
              go_wp2_with fail
              go_meet
              case rel => exact ⟨rfl, rfl, hb10⟩
          case rest =>
            obtain ⟨rfl, rfl, hb10⟩ := hcut
            have HB10 := hide hb10
            have HP10 := hide (HPo.out.below hb10)
            have HBW := hide (HBr.out.trans (hb10.mono HBr.out.size))
            obtain ⟨q0, q1, q2, q3⟩ := HQ.out wc hb10
            clear hb10
            go_wp2_with (go_at_call 16; refine (HST.out _ HB10.out).mono ?_; rintro e w4 ⟨rfl, hw⟩; obtain rfl := hw.symm)
            refine (HDO.out wc HBW.out HP10.out).mono ?_
            rintro e W1 ⟨rfl, hp1, hb1⟩
            have HP1 := hide hp1
            have HBV := hide (HBW.out.trans hb1)
            clear hp1 hb1 q0 q1 q2 q3
            go_wp2_with fail
            go_quiet (fail)
            go_wp2_with fail
            go_roundw
            case rel => exact ⟨k + 1, s', by omega, by go_num, HCN.out, HP1.out.below ⟨rfl, rfl, rfl, Nat.le_refl _, fun _ _ => rfl⟩, HBV.out.trans ⟨rfl, rfl, rfl, Nat.le_refl _, fun _ _ => rfl⟩⟩
            case measure => simp [intOf]; omega
    · have hkn : ¬ (k : Int) < (len : Int) := by omega
      clear hbr
      have HCR : Hid (Pm.err (Pm.crash s []) 0 (Pm.crash s []).ws.length = 0) := by
        show _ = _
        have e : (Pm.crash s []).ws.length = 24 := (Pm.crashW_length _ _).trans HCs.out.len
        rw [e]
        unfold Pm.err Pm.crash
        simp
      have HCL : Hid ((Pm.crash s []).ws.length ≤ 40000) := by
        show _ ≤ _
        rw [show (Pm.crash s []).ws.length = s.ws.length from Pm.crashW_length _ _]
        exact hm24
      have HCS : Hid ((Pm.crash s []).steps ≤ 1000000) := by
        show s.steps ≤ 1000000
        omega
      go_wp2_with fail
      refine (crash_own HPo.out HBr.out.size hm24 (arg_nil _) (by decide) (fun _ x hx => by cases hx)).mono ?_
      rintro e W1 ⟨rfl, hp1, hb1⟩
      have HP1 := hide hp1
      have HBV := hide (HBr.out.trans hb1)
      have hu := hp1.up
      rw [show ((Pm.crash s []).left != 0) = true from rfl] at hu
      have HU := hide hu
      clear hp1 hb1 hu
      go_wp2_with fail
      refine HU.out.mono ?_
      rintro e W2 ⟨rfl, hw⟩
      obtain rfl := hw.symm
      go_wp2_with fail
      refine (store_own HP1.out HBV.out.size 0 1 HCL.out (by show [].length ≤ _; decide) HCS.out rfl rfl).mono ?_
      rintro e W3 ⟨he, hp3, hb3⟩
      rw [HCR.out] at he
      subst he
      have HB3' := hide (HBV.out.trans hb3)
      clear hp3 hb3
      go_wp2_with fail
      go_ret
      exact ⟨rfl, HB3'.out⟩

theorem power_any {w : World} (n : Int) (hn : (Lit.int .i64 n).wf = true) {a : Option Addr} {len cap : Nat} {xs : List Ac} (hA : Acts w a len cap xs) :
    Calls Try.prog 7 #[.int .i64 n, .slice a len cap] w fun e w' => e = .returned (.bool true) ∧ Below w.heap.size w w' := by
  cases h : smallB xs 40 with
  | false => exact power_great n hA h
  | true => exact power_yes n hn hA h
end Go.Proofs.Ytjkiehfjbldkkaa
