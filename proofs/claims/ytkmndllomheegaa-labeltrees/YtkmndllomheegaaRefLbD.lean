/-
  The document's answers (layer 11): Dir, GetDir.
-/
import Derived.Test.YtkmndllomheegaaRefNdA
import Derived.Test.YtkmndllomheegaaLbNums
import Derived.Test.YtkmndllomheegaaRefNdC
import Derived.Test.YtkmndllomheegaaOwnMore
import Derived.Deep.AppendLies
import Derived.Deep.RegionHeld3
namespace Go.Proofs.Ytkmndllomheegaa
set_option linter.unusedVariables false
set_option linter.unusedSimpArgs false
open Go.RowKit

set_option maxRecDepth 100000 in
set_option maxHeartbeats 2000000 in
theorem rdir_any {w : World} {a : Option Addr} {len cap : Nat} {L : List Int} (hA : Arg .i64 w a len cap L) (hl : len ≤ 100000) :
    Calls Try.prog 14 #[.slice a len cap] w fun e w' => e = .returned (.tuple #[.string (if Lb.rightD L = true then strOfNums (Lb.blockD L) else ⟨#[]⟩), .bool (Lb.rightD L)]) ∧ Below w.heap.size w w' := by
  have hzl := hA.2.2.1.1
  obtain ⟨V, hV⟩ : ∃ V : Value, V = .tuple #[.string (if Lb.rightD L = true then strOfNums (Lb.blockD L) else ⟨#[]⟩), .bool (Lb.rightD L)] := ⟨_, rfl⟩
  rw [← hV]
  have HV := hide hV
  clear hV
  have HNO : Hid (Lb.rightD L = false → V = .tuple #[.string ⟨#[]⟩, .bool false]) := fun e => by rw [HV.out, e]; rfl
  have HRD : Hid (Lb.rightD L = (decide (1 ≤ L.length ∧ L.length ≤ 16) && Lb.dirTo L L.length)) := rfl
  by_cases h1 : len < 1
  · have hl0 : (len : Int) < 1 := by omega
    have HF := hide (HNO.out (by rw [HRD.out, decide_eq_false (by omega), Bool.false_and]))
    go_enter Try.func14, Try.ntmps14
    go_wp2_with fail
    go_ret2
    exact ⟨by rw [HF.out]; rfl, Below.refl _ _⟩
  by_cases h2 : 16 < len
  · have hl1 : ¬ (len : Int) < 1 := by omega
    have hl0 : (16 : Int) < (len : Int) := by omega
    have HF := hide (HNO.out (by rw [HRD.out, decide_eq_false (by omega), Bool.false_and]))
    go_enter Try.func14, Try.ntmps14
    go_wp2_with fail
    go_ret2
    exact ⟨by rw [HF.out]; rfl, Below.refl _ _⟩
  have hl1 : ¬ (len : Int) < 1 := by omega
  have hl2 : ¬ (16 : Int) < (len : Int) := by omega
  rw [hzl, decide_eq_true (by omega), Bool.true_and] at HRD
  have HRW := hide hA.2.2.1
  clear hA h1
  go_enter Try.func14, Try.ntmps14
  go_wp2_with fail
  go_loopw [4, 5] (fun s i wr => ∃ j : Nat, j ≤ len ∧ i = .int .i64 j ∧ s = .string (strOfNums (Nd.kidsB (L.take j))) ∧ Lb.dirTo L j = true ∧ Below w.heap.size w wr) (fun _ i _ => len - (intOf i).toNat)
  case atStart => exact ⟨0, Nat.zero_le _, rfl, rfl, rfl, Below.refl _ _⟩
  case round =>
    obtain ⟨j, hj, rfl, rfl, hok, hb⟩ := hrel
    have HB := hide hb
    have HOK := hide hok
    by_cases hlt : j < len
    · have hjI : (j : Int) < (len : Int) := by omega
      obtain ⟨_, h0 | ⟨b, off, rfl, hbw, hc⟩⟩ := HRW.out
      · omega
      have HC : Hid (∀ wx, Below w.heap.size w wx → ∀ i, i < len → wx.cell? ⟨b, off + i, none⟩ = some (.int .i64 (L.getD i 0))) := fun wx hx i hi => (hx.cell hbw).trans (hc i hi)
      have hcj := HC.out wr hb j hlt
      have HSC := hide (Lb.dirTo_succ L j)
      have HNR : Hid (Lb.dirTo L (j + 1) = false → V = .tuple #[.string ⟨#[]⟩, .bool false]) := fun e => HNO.out (by
        rw [HRD.out]
        cases hq : Lb.dirTo L len with
        | false => rfl
        | true =>
          have := Lb.dirTo_le hq (show j + 1 ≤ len by omega)
          rw [e] at this
          exact absurd this (by decide))
      have hsz : (strOfNums (Nd.kidsB (L.take j))).size = 2 * j := by
        rw [size_str, Nd.kidsB_length, List.length_take]
        omega
      have HSN : Hid (strOfNums (Nd.kidsB (L.take j)) ++ strOfNums (Nums.lay (L.getD j 0) 2) = strOfNums (Nd.kidsB (L.take (j + 1)))) := by
        show _ = _
        rw [str_append, List.take_succ_eq_append_getElem (by omega), Nd.kidsB_snoc, List.getD_eq_getElem?_getD, List.getElem?_eq_getElem (by omega)]
        rfl
      have hz2 := size_str (Nums.lay (L.getD j 0) 2)
      rw [Nums.length_lay] at hz2
      rw [hok, Bool.true_and] at HSC
      generalize hzj : L.getD j 0 = z at *
      have HZJ := hide hzj
      have HK := hide (rblock_any z wr)
      clear hb hok hc hzj
      cases hk : Nd.kidB z with
      | false =>
        rw [hk] at HK HSC
        rw [Bool.false_and] at HSC
        have HF := hide (HNR.out HSC.out)
        clear hk HSN
        go_wp2_with fail
        refine HK.out.mono ?_
        rintro e w5 ⟨rfl, hw5⟩
        obtain rfl := hw5.symm
        go_wp2_with fail
        go_ret2
        exact ⟨by rw [HF.out]; rfl, HB.out⟩
      | true =>
        rw [hk] at HK HSC
        rw [Bool.true_and] at HSC
        have hkk := of_decide_eq_true hk
        clear hk
        go_wp2_with fail
        refine HK.out.mono ?_
        rintro e w5 ⟨rfl, hw5⟩
        obtain rfl := hw5.symm
        clear hcj
        go_wp2_with fail
        obtain ⟨wq, hwq⟩ : ∃ x, x = wr := ⟨_, rfl⟩
        subst hwq
        go_loopw [6] (fun k wx => ∃ i : Nat, i ≤ j ∧ k = .int .i64 i ∧ ((List.range i).all fun k => L.getD k 0 != z) = true ∧ Below w.heap.size w wx) (fun k _ => j - (intOf k).toNat)
        case atStart => exact ⟨0, Nat.zero_le _, rfl, rfl, HB.out⟩
        case round =>
          obtain ⟨i, hi, rfl, hall, hbx⟩ := hrel
          have HBX := hide hbx
          by_cases hij : i < j
          · have hiI : (i : Int) < (j : Int) := by omega
            have hil : (i : Int) < (len : Int) := by omega
            have hci : wr.drew.cell? ⟨b, off + i, none⟩ = some (.int .i64 (L.getD i 0)) := HC.out _ hbx.drew i (by omega)
            have hcj : wr.drew.cell? ⟨b, off + j, none⟩ = some (.int .i64 z) := by
              have := HC.out _ hbx.drew j hlt
              rw [HZJ.out] at this
              exact this
            have HAS : Hid (((List.range (i + 1)).all fun k => L.getD k 0 != z) = (L.getD i 0 != z)) := by
              show _ = _
              rw [List.range_succ, List.all_append, hall]
              simp
            have HAN : Hid ((L.getD i 0 != z) = false → ((List.range j).all fun k => L.getD k 0 != z) = false) := fun e => by
              rw [List.all_eq_false]
              exact ⟨i, List.mem_range.2 hij, by rw [e]; decide⟩
            generalize L.getD i 0 = y at *
            clear hall hbx
            by_cases hyz : y = z
            · have e0 : (y != z) = false := by simpa using hyz
              have HFF := hide (HNR.out (by rw [HSC.out]; exact HAN.out e0))
              have heq : (y == z) = true := by simpa using hyz
              clear e0 hyz HAS HAN
              go_wp2_with fail
              go_region_held3 (fun w' => w'.cell? ⟨b, off + i, none⟩ = some (.int .i64 y) ∧ w'.cell? ⟨b, off + j, none⟩ = some (.int .i64 z)) (go_keep) (fail)
              go_wp2_with fail
              go_ret2
              exact ⟨by rw [HFF.out]; rfl, HBX.out.drew⟩
            · have e0 : (y != z) = true := by simpa using hyz
              have HAS' : Hid (((List.range (i + 1)).all fun k => L.getD k 0 != z) = true) := by show _ = _; rw [HAS.out, e0]
              have heq : (y == z) = false := by simpa using hyz
              clear e0 hyz HAS HAN
              go_wp2_with fail
              go_region_held3 (fun w' => w'.cell? ⟨b, off + i, none⟩ = some (.int .i64 y) ∧ w'.cell? ⟨b, off + j, none⟩ = some (.int .i64 z)) (go_keep) (fail)
              go_wp2_with fail
              go_roundw
              case rel => exact ⟨i + 1, by omega, by go_num, HAS'.out, HBX.out.drew⟩
              case measure => simp [intOf]; omega
          · have hiI : ¬ (i : Int) < (j : Int) := by omega
            obtain rfl : i = j := by omega
            have HDT : Hid (Lb.dirTo L (i + 1) = true) := by show _ = _; rw [HSC.out]; exact hall
            have hcj : wr.cell? ⟨b, off + i, none⟩ = some (.int .i64 z) := by
              have := HC.out _ hbx i hlt
              rw [HZJ.out] at this
              exact this
            have hwz : IntKind.u64.wrap z = z := by rw [IntKind.wrap_u64]; omega
            have HLR := hide (fun W => reflay_any z 2 W (by omega) (by omega) (by decide))
            rw [show ((2 : Nat) : Int) = 2 from rfl] at HLR
            generalize strOfNums (Nd.kidsB (L.take i)) = T at *
            generalize strOfNums (Nums.lay z 2) = Z at *
            have hzz : ¬ 9223372036854775807 < T.size + Z.size := by omega
            clear hall hbx HNR
            go_wp2_with fail
            refine (HLR.out _).mono ?_
            rintro e w7 ⟨rfl, hb7⟩
            have HB7 := hide (HBX.out.trans (hb7.mono HBX.out.size))
            clear hb7 hcj
            go_wp2_with fail
            go_roundw
            case rel => exact ⟨i + 1, by omega, by go_num, by rw [HSN.out], HDT.out, HB7.out⟩
            case measure => simp [intOf]; omega
    · have hjI : ¬ (j : Int) < (len : Int) := by omega
      obtain rfl : j = len := by omega
      have hta : L.take j = L := List.take_of_length_le (by omega)
      rw [hta]
      have HRT : Hid (Lb.rightD L = true) := by show _ = _; rw [HRD.out, hok]
      have HS := hide (rseal_any 6 (j : Nat) (Nd.kidsB L) wr (by decide) (by omega) (Nd.kidsB_bytes L) (by rw [Nd.kidsB_length]; omega))
      have HVY : Hid (V = .tuple #[.string (strOfNums (Bk.shut 6 (j : Nat) (Nd.kidsB L))), .bool true]) := by
        show V = _
        rw [HV.out, HRT.out, if_pos rfl]
        unfold Lb.blockD
        rw [hzl]
      generalize strOfNums (Nd.kidsB L) = T at *
      generalize strOfNums (Bk.shut 6 (j : Nat) (Nd.kidsB L)) = Y at *
      clear hb hok hta
      go_wp2_with fail
      refine HS.out.mono ?_
      rintro e w7 ⟨rfl, hb7⟩
      have HB7 := hide (HB.out.trans (hb7.mono HB.out.size))
      clear hb7
      go_wp2_with fail
      go_ret2
      exact ⟨by rw [HVY.out]; rfl, HB7.out⟩
end Go.Proofs.Ytkmndllomheegaa
