/-
  Layer 5's statements: PmemFrom.
-/
import Derived.Test.YtjkiehfjbldkkaaPmLawA
import Derived.Deep.RegionHeldLaw
namespace Go.Proofs.Ytjkiehfjbldkkaa
set_option linter.unusedVariables false
set_option linter.unusedSimpArgs false
open Go.RowKit

set_option maxHeartbeats 1000000 in
theorem from_great {w : World} {a : Option Addr} {len cap : Nat} (h : 3000 < len) :
    Calls Try.prog 4 #[.slice a len cap] w fun e w' => e = .returned (.bool true) ∧ Below w.heap.size w w' := by
  have h1 : (3000 : Int) < (len : Int) := by omega
  clear h
  go_enter Try.func4, Try.ntmps4
  go_wp2_with fail
  refine (awake_any _).mono ?_
  rintro e w1 ⟨rfl, hb1⟩
  have HB1 := hide hb1
  clear hb1
  go_wp2_with fail
  refine (awake_any _).mono ?_
  rintro e w3 ⟨rfl, hb3⟩
  have HB3 := hide (HB1.out.trans (hb3.mono HB1.out.size))
  clear hb3
  go_wp2_with fail
  go_ret
  exact ⟨rfl, HB3.out⟩

set_option maxRecDepth 100000 in
set_option maxHeartbeats 4000000 in
theorem from_yes {w : World} {a : Option Addr} {len cap : Nat} {zs : List Int} (hA : Arg .u8 w a len cap zs) (h : len ≤ 3000) :
    Calls Try.prog 4 #[.slice a len cap] w fun e w' => e = .returned (.bool true) ∧ Below w.heap.size w w' := by
  have HA := hide hA
  have h1 : ¬ (3000 : Int) < (len : Int) := by omega
  obtain ⟨q, hq⟩ : ∃ q, len / 64 = q := ⟨_, rfl⟩
  have hdiv : (len : Int) / 64 = (q : Int) := by omega
  have hql : 64 * q ≤ len := by omega
  have hq4 : q ≤ 46 := by omega
  have hcap := hA.1
  have hcm := hA.2.1
  have HF := hide (fun W (hW : Arg .u8 W a len cap zs) => pfrom_any hW (by omega))
  rw [show min (len / 64) 4096 = q by omega] at HF
  clear hA hq
  go_enter Try.func4, Try.ntmps4
  go_wp2_with fail
  refine (awake_any _).mono ?_
  rintro e w1 ⟨rfl, hb1⟩
  have HB1 := hide hb1
  clear hb1
  go_wp2_with fail
  refine (HF.out _ (HA.out.below HB1.out)).mono ?_
  rintro e w2 ⟨b, F, vs, rfl, ho, hvl, hv, hd, hFB, hb2⟩
  have HB2 := hide (HB1.out.trans (hb2.mono HB1.out.size))
  have hsl : (Pm.of vs).ws.length = 8 * q := by unfold Pm.of; simp [hvl]
  have hfa : Pm.fates (Pm.of vs) = [] := by
    unfold Pm.fates Pm.of
    refine Pm.fates_still (fun x hx => ?_) 0
    obtain ⟨v, _, rfl⟩ := List.mem_map.1 hx
    rfl
  have hil : octs (Pm.lastL (Pm.of vs).ws) = zs.take (64 * q) := by
    unfold Pm.of
    simp only [lastL_of]
    exact ho
  have hvw : octs (Pm.storedL (Pm.of vs).ws) = zs.take (64 * q) := by
    unfold Pm.of
    simp only [storedL_of]
    exact ho
  have hkp : ∀ {W : World}, Below w2.heap.size w2 W → PDev W b (Pm.of vs) F := fun hb => hd.kept hb.size (fun k _ hk => hb.block k hk)
  have hm : (Pm.of vs).ws.length ≤ 40000 := by omega
  have HLI := hide (fun W (hb : Below w2.heap.size w2 W) => plines_any (hkp hb) hm)
  have HUP := hide (fun W (hb : Below w2.heap.size w2 W) => pup_any (hkp hb))
  have HST := hide (fun W (hb : Below w2.heap.size w2 W) => psteps_any (hkp hb))
  have HFA := hide (fun W (hb : Below w2.heap.size w2 W) => pfates_any (hkp hb) hm)
  have HIM := hide (fun W (hb : Below w2.heap.size w2 W) => pimage_any (hkp hb) hm)
  have HVW := hide (fun W (hb : Below w2.heap.size w2 W) => pview_any (hkp hb) hm)
  rw [hfa] at HFA
  rw [hil] at HIM
  rw [hvw] at HVW
  rw [hsl] at HLI HIM HVW
  rw [show 8 * q / 8 = q by omega] at HLI
  rw [show ((Pm.of vs).left != 0) = true from rfl] at HUP
  rw [show (Pm.of vs).steps = 0 from rfl] at HST
  have HRW := hide (fun W (hb : Below w2.heap.size w2 W) => ((HA.out.2.2.1.below HB2.out).below hb).headRow (64 * q) hql)
  obtain ⟨T, hT⟩ : ∃ T, strOfNums (zs.take (64 * q)) = T := ⟨_, rfl⟩
  have HCV : Hid (∀ W (a' : Option Addr) (l cp : Nat), Row .u8 W a' l (zs.take (64 * q)) → (convert 47 9 (.slice a' l cp)).run Try.prog W = .ok (.string T) W) := by
    show ∀ W a' l cp, _ → _
    intro W a' l cp hr
    rw [← hT]
    exact conv_bytes cp hr
  clear ho hvl hv hd hFB hb2 hsl hfa hil hvw hkp hm hT
  have BD : Hid (Below w2.heap.size w2 w2.drew) := ⟨rfl, rfl, rfl, Nat.le_refl _, fun _ _ => rfl⟩
  have htn : (64 * (q : Int)).toNat = 64 * q := by omega
  have hcv0 := HCV.out w2.drew a (64 * q) cap (HRW.out _ BD.out)
  go_wp2_with fail
  have hwr : IntKind.i64.wrap (64 * (q : Int)) = 64 * (q : Int) := by rw [IntKind.wrap_i64]; omega
  have hk0 : (0 : Int) ≤ 64 * (q : Int) := by omega
  have hk1 : 64 * (q : Int) ≤ (cap : Int) := by omega
  have hk2 : 64 * q ≤ cap := by omega
  have hsz := Nat.le_refl w2.heap.size
  go_region_held_law (fun w' => (convert 47 9 (.slice a (64 * q) cap)).run Try.prog w' = .ok (.string T) w')
    (first
      | exact HCV.out w10 a (64 * q) cap (HRW.out _ hb10)
      | exact HCV.out w8 a (64 * q) cap (HRW.out _ hb8)
      | exact HCV.out w5 a (64 * q) cap (HRW.out _ hb5)
      | exact hcv0)
    (first
      | (go_at_call 12; refine (HLI.out _ BD.out).mono ?_; rintro e w4 ⟨rfl, rfl⟩)
      | (go_at_call 17; refine (HUP.out _ BD.out).mono ?_; rintro e w4 ⟨rfl, rfl⟩)
      | (go_at_call 16; refine (HST.out _ BD.out).mono ?_; rintro e w4 ⟨rfl, rfl⟩)
      | (go_at_call 19; refine (HFA.out _ BD.out).mono ?_; rintro e w5 ⟨ax, cx, rfl, hcx, hrx, hb5'⟩; have hb5 := BD.out.trans hb5'; clear hb5' hrx)
      | (go_at_call 21; refine (HIM.out _ hb5).mono ?_; rintro e w8 ⟨ay, cy, rfl, hcy, hr8, hb8'⟩; have hb8 := hb5.trans (hb8'.mono hb5.size); have hcv8 := HCV.out w8 ay _ cy hr8; clear hb8' hr8)
      | (go_at_call 23; refine (HVW.out _ hb8).mono ?_; rintro e w10 ⟨az, cz, rfl, hcz, hr10, hb10'⟩; have hb10 := hb8.trans (hb10'.mono hb8.size); have hcv10 := HCV.out w10 az _ cz hr10; clear hb10' hr10))
  all_goals
    have HB10 := hide (HB2.out.trans (hb10.mono HB2.out.size))
    go_wp2_with fail
    go_ret
    exact ⟨rfl, HB10.out⟩

theorem from_any {w : World} {a : Option Addr} {len cap : Nat} {zs : List Int} (hA : Arg .u8 w a len cap zs) :
    Calls Try.prog 4 #[.slice a len cap] w fun e w' => e = .returned (.bool true) ∧ Below w.heap.size w w' := by
  by_cases h : len ≤ 3000
  · exact from_yes hA h
  · exact from_great (by omega)
end Go.Proofs.Ytjkiehfjbldkkaa
