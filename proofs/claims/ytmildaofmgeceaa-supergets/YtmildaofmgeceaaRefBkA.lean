/-
  The document's answers (layer 7): Fill, Seal.
-/
import Derived.Test.YtmildaofmgeceaaCrcE
import Derived.Test.YtmildaofmgeceaaOcS
import Derived.Test.YtmildaofmgeceaaBkNums
import Derived.Lib.ConvBytes
import Derived.Deep.RegionHeldLaw
import Derived.Deep.RegionHeld3
import Derived.Deep.CutRange
namespace Go.Proofs.Ytmildaofmgeceaa
set_option linter.unusedVariables false
set_option linter.unusedSimpArgs false
open Go.RowKit

/-- []byte(s), for whatever octets. -/
theorem bytes_of_str (w : World) {zs : List Int} (hz : Nums.Bytes zs) : ∃ cap W, (convert 9 30 (.string (strOfNums zs))).run Try.prog w = .ok (.slice (some ⟨w.heap.size, 0, none⟩) zs.length cap) W ∧ Row .u8 W (some ⟨w.heap.size, 0, none⟩) zs.length zs ∧ Below w.heap.size w W := by
  have hr := Lib.run_convert_string_bytes (P := Try.prog) w 9 30 5 (strOfNums zs) Try.underlying9 Try.underlying30 Try.underlying5
  rw [size_str] at hr
  refine ⟨_, _, hr, ⟨rfl, .inr ⟨w.heap.size, 0, rfl, by rw [Lib.bytesWorld_size]; omega, fun i hi => ?_⟩⟩, ?_⟩
  · rw [Nat.zero_add, Lib.bytesWorld_cell w 5 (strOfNums zs) i (by rw [size_str]; exact hi), strOfNums_data]
    have hb := hz zs[i] (List.getElem_mem hi)
    simp only [List.getD_eq_getElem?_getD, List.getElem?_map, List.getElem?_eq_getElem hi, Option.map_some, Option.getD_some]
    have e : ((zs[i].toNat % 2 ^ 8 : Nat) : Int) = zs[i] := by omega
    rw [UInt8.toNat_ofNat', e]
  · exact ⟨rfl, rfl, rfl, by rw [Lib.bytesWorld_size]; omega, fun k hk => Lib.bytesWorld_at_old w _ _ k hk⟩

set_option maxHeartbeats 1000000 in
theorem fill_any (zs : List Int) (n : Nat) (w : World) (hmn : zs.length ≤ n) (hn : n ≤ 100000) :
    Calls Try.prog 48 #[.string (strOfNums zs), .int .i64 n] w fun e w' => e = .returned (.string (strOfNums (Bk.fill zs n))) ∧ Below w.heap.size w w' := by
  obtain ⟨d, hd⟩ : ∃ d, n - zs.length = d := ⟨_, rfl⟩
  have hmk := make_bytes d (by omega)
  have hcv : ∀ w : World, (convert 30 9 (.slice (some ⟨w.heap.size, 0, none⟩) d d)).run Try.prog (w.alloc (.cells (blk .u8 (List.replicate d 0)) 5)) = .ok (.string (strOfNums (List.replicate d 0))) (w.alloc (.cells (blk .u8 (List.replicate d 0)) 5)) := fun w => conv_bytes d (row_of_block (heap_alloc_new w _) (by simp))
  have HE : Hid (strOfNums zs ++ strOfNums (List.replicate d 0) = strOfNums (Bk.fill zs n)) := by
    show _ = _
    rw [str_append]
    unfold Bk.fill
    rw [hd]
  have hsz := size_str zs
  have hsd := size_str (List.replicate d (0 : Int))
  rw [List.length_replicate] at hsd
  have hzq : ¬ 9223372036854775807 < (strOfNums zs).size + (strOfNums (List.replicate d (0 : Int))).size := by rw [hsz, hsd]; omega
  obtain ⟨m, hm⟩ : ∃ m, zs.length = m := ⟨_, rfl⟩
  rw [hm] at hsz hmn hd
  have hb := (Below.refl w.heap.size w).alloc (Nat.le_refl _) (.cells (blk .u8 (List.replicate d 0)) 5)
  have HB := hide hb
  generalize strOfNums (Bk.fill zs n) = X at *
  generalize strOfNums zs = T at *
  generalize strOfNums (List.replicate d (0 : Int)) = D at *
  clear hm hb
  have hdI : (n : Int) - (m : Int) = (d : Int) := by omega
  have h0 : (0 : Int) ≤ (d : Int) := by omega
  go_enter Try.func48, Try.ntmps48
  go_wp2_with fail
  go_ret
  exact ⟨by rw [← HE.out]; rfl, HB.out⟩

set_option maxRecDepth 100000 in
set_option maxHeartbeats 2000000 in
theorem rseal_any (k t : Int) (body : List Int) (w : World) (hk : 0 ≤ k ∧ k ≤ 255) (ht : 0 ≤ t ∧ t ≤ 255) (hb : Nums.Bytes body) (hl : body.length ≤ 56) :
    Calls Try.prog 33 #[.int .i64 k, .int .i64 t, .string (strOfNums body)] w fun e w' => e = .returned (.string (strOfNums (Bk.shut k t body))) ∧ Below w.heap.size w w' := by
  have HF := hide (fun W => fill_any body 56 W (by omega) (by decide))
  have hcv : ∀ w : World, (convert 30 9 (.slice (some ⟨w.heap.size, 0, none⟩) 4 4)).run Try.prog (w.alloc (.cells #[.int .u8 k, .int .u8 t, .int .u8 0, .int .u8 0] 5)) = .ok (.string (strOfNums [k, t, 0, 0])) (w.alloc (.cells #[.int .u8 k, .int .u8 t, .int .u8 0, .int .u8 0] 5)) := fun w => conv_bytes 4 (row_of_block (zs := [k, t, 0, 0]) (heap_alloc_new w _) rfl)
  have HM : Hid (strOfNums [k, t, 0, 0] ++ strOfNums (Bk.fill body 56) = strOfNums (Bk.mid k t body)) := by
    show _ = _
    rw [str_append]
    rfl
  have HBS := hide (fun W => bytes_of_str W (Bk.mid_bytes hk ht hb))
  have HE : Hid (strOfNums (Nums.lay (Crc.sum (Bk.mid k t body) : Nat) 4) ++ strOfNums (Bk.mid k t body) = strOfNums (Bk.shut k t body)) := by
    show _ = _
    rw [str_append]
    rfl
  have hkw : IntKind.u8.wrap k = k := by unfold IntKind.wrap; simp [IntKind.signed, IntKind.bits]; omega
  have htw : IntKind.u8.wrap t = t := by unfold IntKind.wrap; simp [IntKind.signed, IntKind.bits]; omega
  have hsm := size_str (Bk.mid k t body)
  have hsl := size_str (Nums.lay (Crc.sum (Bk.mid k t body) : Nat) 4)
  have hs4 := size_str [k, t, 0, 0]
  have hsf := size_str (Bk.fill body 56)
  rw [Bk.mid_length hl] at hsm
  rw [Nums.length_lay] at hsl
  rw [Bk.fill_length hl] at hsf
  have hs4' : (strOfNums [k, t, 0, 0]).size = 4 := hs4
  have HML := hide (Bk.mid_length (k := k) (t := t) hl)
  have HMB := hide (Bk.mid_bytes hk ht hb)
  have hsum := sum_lt (Bk.mid k t body)
  have HRL := hide (fun W => reflay_any (Crc.sum (Bk.mid k t body) : Nat) 4 W (by omega) (by omega) (by decide))
  have HRS := hide (fun (W : World) (a : Option Addr) (cp : Nat) (hr : Row .u8 W a 60 (Bk.mid k t body)) => ref_sum_any a 60 cp (Bk.mid k t body) W (by unfold maxLen; decide) hr HMB.out)
  obtain ⟨A, hA⟩ : ∃ A, strOfNums [k, t, 0, 0] = A := ⟨_, rfl⟩
  obtain ⟨D, hD⟩ : ∃ D, strOfNums (Bk.fill body 56) = D := ⟨_, rfl⟩
  obtain ⟨M, hM⟩ : ∃ M, strOfNums (Bk.mid k t body) = M := ⟨_, rfl⟩
  obtain ⟨Y, hY⟩ : ∃ Y, strOfNums (Nums.lay (Crc.sum (Bk.mid k t body) : Nat) 4) = Y := ⟨_, rfl⟩
  obtain ⟨q, hq⟩ : ∃ q, Crc.sum (Bk.mid k t body) = q := ⟨_, rfl⟩
  rw [hA, hD, hM] at HM
  rw [hM, hY] at HE
  rw [hA] at hcv hs4'
  rw [hD] at HF hsf
  rw [hM, HML.out] at HBS
  rw [hY] at HRL hsl
  rw [hq] at HRS hsum HRL
  rw [hM] at hsm
  have hAD : ¬ 9223372036854775807 < A.size + D.size := by omega
  have hYM : ¬ 9223372036854775807 < Y.size + M.size := by omega
  have hcM : A ++ D = M := HM.out
  have BD : Hid (Below w.heap.size w w.drew) := ⟨rfl, rfl, rfl, Nat.le_refl _, fun _ _ => rfl⟩
  generalize strOfNums body = T at *
  have HAA := hide hA
  clear hA hD hM hY hs4 hq
  have HCB : Hid (∀ W, Below (w.alloc (.cells #[.int .u8 k, .int .u8 t, .int .u8 0, .int .u8 0] 5)).heap.size (w.alloc (.cells #[.int .u8 k, .int .u8 t, .int .u8 0, .int .u8 0] 5)).drew W → (convert 30 9 (.slice (some ⟨w.heap.size, 0, none⟩) 4 4)).run Try.prog W = .ok (.string A) W) := fun W hb => by
    have hrow : Row .u8 (w.alloc (.cells #[.int .u8 k, .int .u8 t, .int .u8 0, .int .u8 0] 5)).drew (some ⟨w.heap.size, 0, none⟩) 4 [k, t, 0, 0] := row_of_block (zs := [k, t, 0, 0]) (heap_alloc_new w _) rfl
    have := conv_bytes 4 (hrow.below hb)
    rw [HAA.out] at this
    exact this
  have hcv0 := HCB.out _ (Below.refl _ _)
  have HBB : Hid (∀ W, Below (w.alloc (.cells #[.int .u8 k, .int .u8 t, .int .u8 0, .int .u8 0] 5)).heap.size (w.alloc (.cells #[.int .u8 k, .int .u8 t, .int .u8 0, .int .u8 0] 5)).drew W → Below w.heap.size w W) := fun W hb => ((Below.refl w.heap.size w).alloc (Nat.le_refl _) _).drew.trans (hb.mono (by simp))
  have HBC : Hid (∀ W, Below w.heap.size w.drew W → Below w.heap.size w (W.alloc (.cells #[.int .u8 k, .int .u8 t, .int .u8 0, .int .u8 0] 5))) := fun W hb => (BD.out.trans hb).alloc (Nat.le_trans (Nat.le_refl _) hb.size) _
  have hsz := Nat.le_refl w.heap.size
  go_enter Try.func33, Try.ntmps33
  go_wp2_with fail
  go_cut [7] from 8 to 23 (fun u wx => u = .string M ∧ Below w.heap.size w wx)
  case first =>
    go_region_held_law (fun w' => w.heap.size ≤ w'.heap.size)
      (first
        | exact hsz
        | exact (HBB.out _ hb5).size
        | exact (HBC.out _ hb5).size
        | exact hb5.size
        | simp)
      (first
        | (go_at_call 48; refine (HF.out _).mono ?_; rintro e w5 ⟨rfl, hb5⟩; have hcv5 := HCB.out w5 hb5)
        | (go_at_call 48; refine (HF.out _).mono ?_; rintro e w5 ⟨rfl, hb5⟩))
    all_goals
      go_wp2_with fail
      go_meet
      case rel => first | exact ⟨rfl, HBB.out _ hb5⟩ | exact ⟨rfl, HBC.out _ hb5⟩
  case rest =>
    obtain ⟨rfl, hbc⟩ := hcut
    have HBc := hide hbc
    obtain ⟨cp, W, hrun, hrow, hbw⟩ := HBS.out wc
    have HRW := hide hrow
    have HBW := hide (hbc.trans (hbw.mono hbc.size))
    clear hbc hbw hrow
    go_wp2_with fail
    refine (HRS.out W _ _ HRW.out).mono ?_
    rintro e w6 ⟨rfl, hw6⟩
    obtain rfl := hw6.symm
    have hqI : (q : Int) ≤ 4294967295 := by omega
    clear hrun hw6
    go_wp2_with fail
    refine (HRL.out _).mono ?_
    rintro e w7 ⟨rfl, hb7⟩
    have HB7 := hide (HBW.out.trans (hb7.mono HBW.out.size))
    clear hb7
    go_wp2_with fail
    go_ret
    exact ⟨by rw [← HE.out]; rfl, HB7.out⟩
end Go.Proofs.Ytmildaofmgeceaa
