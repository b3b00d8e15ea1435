/-
  page.rightLeaf, rightFan, Lives, Empty: what they answer.
-/
import Derived.Test.YtjehcgkmapapbaaPgPA
namespace Go.Proofs.Ytjehcgkmapapbaa
set_option linter.unusedVariables false
set_option linter.unusedSimpArgs false
open Go.RowKit

theorem run_index_leaf (l : List Pg.Seat) (hl : l.length = 7) (j : Nat) (hj : j < 7) (x : Pg.Seat) (hx : l.getD j ⟨false, 0, 0⟩ = x) (w : World) : (Instr.index 24 (.agg (leafC l)) (.int .i64 (j : Int))).run Try.prog w = .ok (.agg #[.bool x.live, .int .i64 x.gen, .int .i64 x.next]) w := by
  have hs : (sizeOf 23).run Try.prog w = .ok 3 w := info_ok _ _ info_seat 3 (by kernel_rfl) w
  have hp := part_seat l j (by omega) w
  have hi : (0 : Int) ≤ (j : Int) ∧ (j : Int) < ((7 : Nat) : Int) := by omega
  have hg : l[j]'(by omega) = x := by rw [← hx, List.getD_eq_getElem?_getD, List.getElem?_eq_getElem (by omega)]; rfl
  rw [hg] at hp
  simp [Instr.index, asIntOf, Sem.run_bind, run_underlying Try.underlying24, hi, hs, hp, hj]
  rfl
theorem run_index_fan (l : List Int) (hl : l.length = 16) (j : Nat) (hj : j < 16) (w : World) : (Instr.index 38 (.agg (blk .i64 l)) (.int .i64 (j : Int))).run Try.prog w = .ok (.int .i64 (l.getD j 0)) w := by
  have hs : (sizeOf 3).run Try.prog w = .ok 1 w := info_ok _ _ info_int' 1 (by kernel_rfl) w
  have hp := part_cell 3 .i64 Try.underlying3 l j (by omega) w
  have hi : (0 : Int) ≤ (j : Int) ∧ (j : Int) < ((16 : Nat) : Int) := by omega
  simp [Instr.index, asIntOf, Sem.run_bind, run_underlying Try.underlying38, hi, hs, hp, hj]

set_option maxRecDepth 100000 in
set_option maxHeartbeats 1000000 in
theorem prightleaf_any (l : List Pg.Seat) (w : World) (hl : l.length = 7) :
    Calls Try.prog 23 #[.agg (leafC l)] w fun e w' => e = .returned (.bool (Pg.leafR l)) ∧ Below w.heap.size w w' := by
  obtain ⟨W, hW⟩ : ∃ W, W = w.alloc (.cells (leafC l) 26) := ⟨_, rfl⟩
  have hB0 : Below w.heap.size w W := by rw [hW]; exact (Below.refl _ _).alloc (Nat.le_refl _) _
  have hg0 : W.heap[w.heap.size]? = some (.cells (leafC l) 26 (0, 0)) := by rw [hW]; exact heap_alloc_new w _
  have HB0 := hide hB0
  have HG0 := hide hg0
  have HSZ : Hid ((Try.prog.info? 24).map (·.size) = some (leafC l).size) := by show _ = _; rw [leafC_size, hl]; kernel_rfl
  clear hB0 hg0
  go_enter Try.func23, Try.ntmps23
  go_wp2_with (refine wpList_load_row rfl 24 _ rfl w.heap.size rfl 26 (leafC l) (0, 0) _ (heap_alloc_new w _) Try.underlying24 rfl HSZ.out ?_)
  rw [← hW]
  clear hW
  go_loopw [7] (fun i wr => ∃ j : Nat, j ≤ 7 ∧ i = .int .i64 j ∧ Pg.leafR (l.take j) = true ∧ Below W.heap.size W wr) (fun i _ => 7 - (intOf i).toNat)
  case atStart => exact ⟨0, Nat.zero_le _, rfl, rfl, Below.refl _ _⟩
  case round =>
    obtain ⟨j, hj, rfl, htk, hbr⟩ := hrel
    have HBR := hide hbr
    by_cases hlt : j < 7
    · have hjI : (j : Int) < 7 := by omega
      obtain ⟨x, hx⟩ : ∃ x, l.getD j ⟨false, 0, 0⟩ = x := ⟨_, rfl⟩
      obtain ⟨b, g, n⟩ := x
      have hix := fun W => run_index_leaf l hl j hlt _ hx W
      have HT : Hid (Pg.leafR (l.take (j + 1)) = Pg.seatB ⟨b, g, n⟩) := by
        show _ = _
        unfold Pg.leafR at *
        rw [List.take_succ_eq_append_getElem (by omega), List.all_append, htk, ← hx, List.getD_eq_getElem?_getD, List.getElem?_eq_getElem (by omega)]
        simp
      have HF : Hid (Pg.seatB ⟨b, g, n⟩ = false → Pg.leafR l = false) := fun e => by
        have e1 := HT.out
        unfold Pg.leafR at *
        rw [← List.take_append_drop (j + 1) l, List.all_append, e1, e]
        rfl
      have HRS := hide (fun W => rightseat_any b g n W)
      clear hbr htk hx
      go_wp2_with fail
      refine (HRS.out _).mono ?_
      rintro e w5 ⟨rfl, hb5⟩
      have HB5 : Hid (Below W.heap.size W w5) := (HBR.out.alloc HBR.out.size _).trans (hb5.mono (by have := HBR.out.size; simp; omega))
      clear hb5
      generalize Pg.seatB ⟨b, g, n⟩ = q at *
      cases q with
      | true =>
        go_wp2_with fail
        go_roundw
        case rel => exact ⟨j + 1, by omega, by go_num, HT.out, HB5.out⟩
        case measure => simp [intOf]; omega
      | false =>
        have HFF := hide (HF.out rfl)
        clear HF HT
        go_wp2_with fail
        go_ret
        exact ⟨by rw [HFF.out]; rfl, HB0.out.trans (HB5.out.mono HB0.out.size)⟩
    · have hjI : ¬ (j : Int) < 7 := by omega
      have HE : Hid (Pg.leafR l = true) := by
        show _ = _
        rwa [List.take_of_length_le (by omega)] at htk
      clear htk hbr
      go_wp2_with fail
      go_ret
      exact ⟨by rw [HE.out]; rfl, HB0.out.trans (HBR.out.mono HB0.out.size)⟩

set_option maxRecDepth 100000 in
set_option maxHeartbeats 1000000 in
theorem prightfan_any (l : List Int) (w : World) (hl : l.length = 16) :
    Calls Try.prog 30 #[.agg (blk .i64 l)] w fun e w' => e = .returned (.bool (Pg.fanR l)) ∧ Below w.heap.size w w' := by
  obtain ⟨W, hW⟩ : ∃ W, W = w.alloc (.cells (blk .i64 l) 40) := ⟨_, rfl⟩
  have hB0 : Below w.heap.size w W := by rw [hW]; exact (Below.refl _ _).alloc (Nat.le_refl _) _
  have HB0 := hide hB0
  have HSZ : Hid ((Try.prog.info? 38).map (·.size) = some (blk .i64 l).size) := by show _ = _; rw [size_blk, hl]; kernel_rfl
  clear hB0
  go_enter Try.func30, Try.ntmps30
  go_wp2_with (refine wpList_load_row rfl 38 _ rfl w.heap.size rfl 40 (blk .i64 l) (0, 0) _ (heap_alloc_new w _) Try.underlying38 rfl HSZ.out ?_)
  rw [← hW]
  clear hW
  go_loopw [7] (fun i wr => ∃ j : Nat, j ≤ 16 ∧ i = .int .i64 j ∧ Pg.fanR (l.take j) = true ∧ wr = W) (fun i _ => 16 - (intOf i).toNat)
  case atStart => exact ⟨0, Nat.zero_le _, rfl, rfl, rfl⟩
  case round =>
    obtain ⟨j, hj, rfl, htk, rfl⟩ := hrel
    by_cases hlt : j < 16
    · have hjI : (j : Int) < 16 := by omega
      have hix := fun W => run_index_fan l hl j hlt W
      have HT : Hid (Pg.fanR (l.take (j + 1)) = (l.getD j 0 == 0 || Nd.kidB (l.getD j 0))) := by
        show _ = _
        unfold Pg.fanR at *
        rw [List.take_succ_eq_append_getElem (by omega), List.all_append, htk, List.getD_eq_getElem?_getD, List.getElem?_eq_getElem (by omega)]
        simp
      have HF : Hid ((l.getD j 0 == 0 || Nd.kidB (l.getD j 0)) = false → Pg.fanR l = false) := fun e => by
        have e1 := HT.out
        unfold Pg.fanR at *
        rw [← List.take_append_drop (j + 1) l, List.all_append, e1, e]
        rfl
      clear htk
      generalize l.getD j 0 = z at *
      by_cases c0 : z = 0
      · subst c0
        go_wp2_with fail
        go_roundw
        case rel => exact ⟨j + 1, by omega, by go_num, HT.out, trivial⟩
        case measure => simp [intOf]; omega
      have d0 : (z != 0) = true := by simpa using c0
      have HZ := hide (fun W => pbetween_any z 2 3071 W)
      have hq : decide (2 ≤ z ∧ z ≤ 3071) = Nd.kidB z := rfl
      rw [hq] at HZ
      rw [show (z == 0) = false by simpa using c0, Bool.false_or] at HT HF
      clear hq
      generalize Nd.kidB z = q at *
      cases q with
      | true =>
        go_wp2_with (go_at_call 21; refine (HZ.out _).mono ?_; rintro e w' ⟨rfl, hw'⟩; obtain rfl := hw'.symm)
        go_roundw
        case rel => exact ⟨j + 1, by omega, by go_num, HT.out, trivial⟩
        case measure => simp [intOf]; omega
      | false =>
        have HFF := hide (HF.out rfl)
        clear HF HT
        go_wp2_with (go_at_call 21; refine (HZ.out _).mono ?_; rintro e w' ⟨rfl, hw'⟩; obtain rfl := hw'.symm)
        go_ret
        exact ⟨by rw [HFF.out]; rfl, HB0.out⟩
    · have hjI : ¬ (j : Int) < 16 := by omega
      have HE : Hid (Pg.fanR l = true) := by
        show _ = _
        rwa [List.take_of_length_le (by omega)] at htk
      clear htk
      go_wp2_with fail
      go_ret
      exact ⟨by rw [HE.out]; rfl, HB0.out⟩

def livesN (l : List Pg.Seat) : Nat := l.countP (·.live)

set_option maxRecDepth 100000 in
set_option maxHeartbeats 1000000 in
theorem lives_any (l : List Pg.Seat) (w : World) (hl : l.length = 7) :
    Calls Try.prog 13 #[.agg (leafC l)] w fun e w' => e = .returned (.int .i64 (livesN l)) ∧ Below w.heap.size w w' := by
  obtain ⟨W, hW⟩ : ∃ W, W = w.alloc (.cells (leafC l) 26) := ⟨_, rfl⟩
  have hB0 : Below w.heap.size w W := by rw [hW]; exact (Below.refl _ _).alloc (Nat.le_refl _) _
  have HB0 := hide hB0
  have HSZ : Hid ((Try.prog.info? 24).map (·.size) = some (leafC l).size) := by show _ = _; rw [leafC_size, hl]; kernel_rfl
  clear hB0
  go_enter Try.func13, Try.ntmps13
  go_wp2_with (refine wpList_load_row rfl 24 _ rfl w.heap.size rfl 26 (leafC l) (0, 0) _ (heap_alloc_new w _) Try.underlying24 rfl HSZ.out ?_)
  rw [← hW]
  clear hW
  go_loopw [3, 8] (fun t i wr => ∃ j : Nat, j ≤ 7 ∧ i = .int .i64 j ∧ t = .int .i64 (livesN (l.take j) : Nat) ∧ Below W.heap.size W wr) (fun _ i _ => 7 - (intOf i).toNat)
  case atStart => exact ⟨0, Nat.zero_le _, rfl, rfl, Below.refl _ _⟩
  case round =>
    obtain ⟨j, hj, rfl, rfl, hbr⟩ := hrel
    have HBR := hide hbr
    by_cases hlt : j < 7
    · have hjI : (j : Int) < 7 := by omega
      obtain ⟨x, hx⟩ : ∃ x, l.getD j ⟨false, 0, 0⟩ = x := ⟨_, rfl⟩
      obtain ⟨b, g, n⟩ := x
      have hix := fun W => run_index_leaf l hl j hlt _ hx W
      have HT : Hid (livesN (l.take (j + 1)) = livesN (l.take j) + if b = true then 1 else 0) := by
        show _ = _
        unfold livesN
        have hx' : l[j]'(by omega) = ⟨b, g, n⟩ := by rw [← hx, List.getD_eq_getElem?_getD, List.getElem?_eq_getElem (by omega)]; rfl
        rw [List.take_succ_eq_append_getElem (by omega), List.countP_append, hx']
        simp
      have hle : livesN (l.take j) ≤ 7 := Nat.le_trans List.countP_le_length (by simp; omega)
      have HB5 : Hid (Below W.heap.size W (wr.alloc (.cells #[.bool b, .int .i64 g, .int .i64 n] 23))) := HBR.out.alloc HBR.out.size _
      generalize livesN (l.take j) = c at *
      clear hbr hx
      cases b with
      | true =>
        go_wp2_with fail
        go_roundw
        case rel => exact ⟨j + 1, by omega, by go_num, by rw [HT.out]; go_num, HB5.out⟩
        case measure => simp [intOf]; omega
      | false =>
        go_wp2_with fail
        go_roundw
        case rel => exact ⟨j + 1, by omega, by go_num, by rw [HT.out]; go_num, HB5.out⟩
        case measure => simp [intOf]; omega
    · have hjI : ¬ (j : Int) < 7 := by omega
      have hta : l.take j = l := List.take_of_length_le (by omega)
      rw [hta]
      clear hbr
      go_wp2_with fail
      go_ret
      exact ⟨rfl, HB0.out.trans (HBR.out.mono HB0.out.size)⟩

theorem run_eql_kids (l : List Int) (hl : l.length = 16) (w : World) : (Op.equalIn 10000 38 (.agg (blk .i64 l)) (.agg (blk .i64 Pg.nilF))).run Try.prog w = .ok (l.all (· == 0)) w := by
  rw [run_equalIn_array w 9999 (t := 38) (e := 3) (n := 16) _ _ Try.underlying38 info_int', show Try.prog.cellsOf 3 = 1 by kernel_rfl, eqItems_cells 3 .i64 Try.underlying3 9998 l Pg.nilF w _ (fun i hi => by have := List.mem_range.1 hi; have : Pg.nilF.length = 16 := rfl; omega), all_range l Pg.nilF 16 _ hl rfl]
  congr 1
  rw [Bool.eq_iff_iff, decide_eq_true_iff, List.all_eq_true]
  constructor
  · rintro rfl x hx
    have := List.eq_of_mem_replicate hx
    simp [this]
  · intro h
    exact List.eq_replicate_of_mem (fun x hx => by simpa using h x hx) |>.trans (by rw [hl]; rfl)
set_option maxRecDepth 100000 in
set_option maxHeartbeats 1000000 in
theorem empty_any (l : List Int) (w : World) (hl : l.length = 16) : Calls Try.prog 17 #[.agg (blk .i64 l)] w fun e w' => e = .returned (.bool (l.all (· == 0))) ∧ Below w.heap.size w w' := by
  have HSZ : Hid ((Try.prog.info? 38).map (·.size) = some (blk .i64 l).size) := by show _ = _; rw [size_blk, hl]; kernel_rfl
  have hEQ := fun W => run_eql_kids l hl W
  have HB0 : Hid (Below w.heap.size w (w.alloc (.cells (blk .i64 l) 40))) := (Below.refl _ _).alloc (Nat.le_refl _) _
  rw [show blk .i64 Pg.nilF = #[Value.int .i64 0, Value.int .i64 0, Value.int .i64 0, Value.int .i64 0, Value.int .i64 0, Value.int .i64 0, Value.int .i64 0, Value.int .i64 0, Value.int .i64 0, Value.int .i64 0, Value.int .i64 0, Value.int .i64 0, Value.int .i64 0, Value.int .i64 0, Value.int .i64 0, Value.int .i64 0] from rfl] at hEQ
  generalize l.all (· == 0) = q at *
  go_enter Try.func17, Try.ntmps17
  go_wp2_with (refine wpList_load_row rfl 38 _ rfl w.heap.size rfl 40 (blk .i64 l) (0, 0) _ (heap_alloc_new w _) Try.underlying38 rfl HSZ.out ?_)
  go_ret
  exact ⟨rfl, HB0.out⟩
end Go.Proofs.Ytjehcgkmapapbaa
