/-
  strconv.FormatInt at base 16, of a number from 0 to 1114111: its digits.
-/
import Derived.Test.YtpekemiplldlpaaDoorHexA
namespace Go.Proofs.YtpekemiplldlpaaDoor
set_option linter.unusedVariables false
set_option linter.unusedSimpArgs false
open Go.RowKit

theorem zero65 (w : World) : (zeroValue 67).run Tryd.prog w = .ok (.agg (blk .u8 (List.replicate 65 0))) w := by kernel_rfl

/-- the digits' text, a digit of it. -/
theorem dig_at (d : Nat) (h : d < 16) : ∀ hq, (((⟨#[48, 49, 50, 51, 52, 53, 54, 55, 56, 57, 97, 98, 99, 100, 101, 102, 103, 104, 105, 106, 107, 108, 109, 110, 111, 112, 113, 114, 115, 116, 117, 118, 119, 120, 121, 122]⟩ : ByteArray)[d]'hq).toNat : Int) = hxd d := by
  have key : ∀ d : Fin 16, ((#[48, 49, 50, 51, 52, 53, 54, 55, 56, 57, 97, 98, 99, 100, 101, 102, 103, 104, 105, 106, 107, 108, 109, 110, 111, 112, 113, 114, 115, 116, 117, 118, 119, 120, 121, 122] : Array UInt8).getD d.val 0).toNat = (hxd d.val).toNat := by decide
  intro hq
  have k : ((#[48, 49, 50, 51, 52, 53, 54, 55, 56, 57, 97, 98, 99, 100, 101, 102, 103, 104, 105, 106, 107, 108, 109, 110, 111, 112, 113, 114, 115, 116, 117, 118, 119, 120, 121, 122] : Array UInt8).getD d 0).toNat = (hxd d).toNat := key ⟨d, h⟩
  have hd : 0 ≤ hxd d := by unfold hxd; split <;> omega
  have e : (⟨#[48, 49, 50, 51, 52, 53, 54, 55, 56, 57, 97, 98, 99, 100, 101, 102, 103, 104, 105, 106, 107, 108, 109, 110, 111, 112, 113, 114, 115, 116, 117, 118, 119, 120, 121, 122]⟩ : ByteArray)[d]'hq = (#[48, 49, 50, 51, 52, 53, 54, 55, 56, 57, 97, 98, 99, 100, 101, 102, 103, 104, 105, 106, 107, 108, 109, 110, 111, 112, 113, 114, 115, 116, 117, 118, 119, 120, 121, 122] : Array UInt8).getD d 0 := by
    simp only [Array.getD]
    rw [dif_pos (by simp; omega)]
    rfl
  rw [e]
  exact (congrArg Int.ofNat k).trans (Int.toNat_of_nonneg hd)
theorem slice65 (b k : Nat) (h : k ≤ 65) (W : World) : (Instr.sliceAt 67 (.pointer (some ⟨b, 0, none⟩)) (some (.int .i64 k)) none none).run Tryd.prog W = .ok (.slice (some ⟨b, k, none⟩) (65 - k) (65 - k)) W ∨ k = 65 := by
  by_cases h65 : k = 65
  · exact .inr h65
  · left
    have hal : Tryd.prog.arrayLen 67 = 65 := by kernel_rfl
    have hel : Tryd.prog.elem 67 = 5 := by kernel_rfl
    rw [run_sliceAt_array_l W 67 ⟨b, 0, none⟩ (by rw [Tryd.underlying67, hal, hel]) .i64 (k : Int) (by omega) (by rw [hal]; omega), hal, hel, Tryd.sizeOf5]
    simp [slicedAt, Result.andThen, h65, Addr.add]
    rw [if_neg (Ne.symm h65)]
    split
    · rename_i h0; rw [h0]
    · rfl

set_option maxHeartbeats 2000000 in
theorem fmtbits16 (u : Nat) (w : World) (ht : Tabs w) (hu : u ≤ 1114111) :
    Calls Tryd.prog 38 #[.slice none 0 0, .int .u64 u, .int .i64 16, .bool false, .bool false] w fun e w' => e = .returned (.tuple #[.slice none 0 0, .string (strOfNums (hexd u))]) ∧ Below w.heap.size w w' := by
  have HP := hide pow16
  have HT := hide (fun W (h : Tabs W) => tz16u W h)
  have hzv := zero65
  go_enter Tryd.func38, Tryd.ntmps38
  go_wp2_with fail
  refine (HP.out _).mono ?_
  rintro e w1 ⟨rfl, hw⟩
  obtain rfl := hw.symm
  go_wp2_with fail
  refine (HT.out _ (ht.below ((Below.refl _ _).alloc (Nat.le_refl _) _))).mono ?_
  rintro e w1 ⟨rfl, hw⟩
  obtain rfl := hw.symm
  clear hzv
  go_wp2_with fail
  go_loopw [1, 13] (fun v i wr => ∃ (q k j : Nat) (arr : List Int), v = .int .u64 q ∧ i = .int .i64 k ∧ arr.length = 65 ∧ wr.heap[w.heap.size]? = some (.cells (blk .u8 arr) 67 (0, 0)) ∧ Below w.heap.size w wr ∧ k + j = 65 ∧ j ≤ 7 ∧ q < 16 ^ (8 - j) ∧ q ≤ 1114111 ∧ hexd u = hexF (8 - j) q ++ arr.drop k) (fun v _ _ => (intOf v).toNat)
  case atStart => exact ⟨u, 65, 0, List.replicate 65 0, rfl, rfl, by simp, heap_alloc_new w _, (Below.refl _ _).alloc (Nat.le_refl _) _, rfl, by omega, by omega, hu, by simp [hexd]⟩
  case round =>
    obtain ⟨q, k, j, arr, rfl, rfl, harr, hg, hb, hkj, hj, hq, hq1, hh⟩ := hrel
    have HG := hide hg
    have HB := hide hb
    have HH := hide hh
    have HQ := hide hq
    clear hg hb hh hq
    have hsz := size_blk .u8 arr
    have hcell : wr.cell? ⟨w.heap.size, k - 1, none⟩ = some (.int .u8 (arr.getD (k - 1) 0)) := by
      simp [World.cell?, HG.out, blk_get .u8 arr (k - 1) (by omega)]
    have hfz : wr.frozen? ⟨w.heap.size, k - 1, none⟩ = false := by
      simp [World.frozen?, HG.out]
    have hk1 : ((k : Int) - 1).toNat = k - 1 := by omega
    by_cases h16 : 16 ≤ q
    · have hi : (16 : Int) ≤ (q : Int) := by omega
      have hand := and15 q (by omega)
      have hdig := dig_at (q % 16) (by omega)
      have HST := hide (hex_step h16 hj HQ.out HH.out)
      go_wp2_with fail
      go_roundw
      case rel =>
        refine ⟨q / 16, k - 1, j + 1, arr.set (k - 1) (hxd (q % 16)), by go_num, by go_num, by simp [harr], ?_, HB.out.setCell (Nat.le_refl _) _, by omega, HST.out.1, HST.out.2.1, by omega, ?_⟩
        · rw [heap_setCell_same _ _ _ _ _ _ HG.out, blk_set]
        · rw [HST.out.2.2, List.drop_eq_getElem_cons (i := k - 1) (by simp; omega), show k - 1 + 1 = k by omega]
          simp
          rw [List.drop_set_of_lt (by omega)]
      case measure => simp [intOf]; omega
    · have hi : ¬ (16 : Int) ≤ (q : Int) := by omega
      have hdig := dig_at q (by omega)
      have hsl := fun W => (slice65 w.heap.size (k - 1) (by omega) W).resolve_right (by omega)
      have ek : ((k - 1 : Nat) : Int) = (k : Int) - 1 := by omega
      rw [ek] at hsl
      clear ek
      obtain ⟨W2, hW2⟩ : ∃ W2, W2 = wr.setCell ⟨w.heap.size, k - 1, none⟩ (.int .u8 (hxd q)) := ⟨_, rfl⟩
      have hg2 : W2.heap[w.heap.size]? = some (.cells (blk .u8 (arr.set (k - 1) (hxd q))) 67 (0, 0)) := by
        rw [hW2, heap_setCell_same _ _ _ _ _ _ HG.out, blk_set]
      have HB2 : Hid (Below w.heap.size w W2) := by
        show Below _ _ _
        rw [hW2]
        exact HB.out.setCell (Nat.le_refl _) _
      have hcv : (convert 41 9 (.slice (some ⟨w.heap.size, k - 1, none⟩) (65 - (k - 1)) (65 - (k - 1)))).run Tryd.prog W2 = .ok (.string (strOfNums (hexd u))) W2 := by
        obtain ⟨b, off, hbo, hrow⟩ := (row_of_block (n := 65) hg2 (by simp [harr])).cut (k - 1) (65 - (k - 1)) (by omega) (by omega)
        cases hbo
        have e1 : (((arr.set (k - 1) (hxd q)).drop (k - 1)).take (65 - (k - 1))) = hexd u := by
          rw [hex_last (by omega) hj HH.out, List.take_of_length_le (by simp; omega), List.drop_eq_getElem_cons (i := k - 1) (by simp; omega), show k - 1 + 1 = k by omega]
          simp
          rw [List.drop_set_of_lt (by omega)]
        rw [e1, Nat.zero_add] at hrow
        exact conv_bytes _ hrow
      rw [hW2] at hcv
      rw [hW2] at HB2
      clear hg2 hW2
      go_wp2_with fail
      go_ret2
      exact ⟨rfl, HB2.out⟩

theorem fmtint16i (u : Nat) (w : World) (ht : Tabs w) (hu : u ≤ 1114111) :
    Calls Tryd.prog 34 #[.int .i64 u, .int .i64 16] w fun e w' => e = .returned (.string (strOfNums (hexd u))) ∧ Below w.heap.size w w' := by
  have HF := hide (fmtbits16 u w ht hu)
  have hn : ¬ (u : Int) < 0 := by omega
  have hwr : IntKind.u64.wrap (u : Int) = u := by rw [IntKind.wrap_u64]; omega
  generalize strOfNums (hexd u) = T at *
  go_enter Tryd.func34, Tryd.ntmps34
  go_wp2_with fail
  refine HF.out.mono ?_
  rintro e w1 ⟨rfl, hb⟩
  have HB := hide hb
  clear hb
  go_wp2_with fail
  go_ret
  exact ⟨rfl, HB.out⟩
theorem fmtint16 (u : Nat) (w : World) (ht : Tabs w) (hu : u ≤ 1114111) :
    Calls Tryd.prog 31 #[.int .i64 u, .int .i64 16] w fun e w' => e = .returned (.string (strOfNums (hexd u))) ∧ Below w.heap.size w w' := by
  have HF := hide (fmtint16i u w ht hu)
  generalize strOfNums (hexd u) = T at *
  go_enter Tryd.func31, Tryd.ntmps31
  go_wp2_with fail
  refine HF.out.mono ?_
  rintro e w1 ⟨rfl, hb⟩
  have HB := hide hb
  clear hb
  go_wp2_with fail
  go_ret
  exact ⟨rfl, HB.out⟩
end Go.Proofs.YtpekemiplldlpaaDoor
