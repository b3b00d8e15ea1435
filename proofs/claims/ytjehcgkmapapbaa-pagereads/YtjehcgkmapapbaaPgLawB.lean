/-
  Layer 9's statements: PageLeaves.
-/
import Derived.Test.YtjehcgkmapapbaaPgLawA
namespace Go.Proofs.Ytjehcgkmapapbaa
set_option linter.unusedVariables false
set_option linter.unusedSimpArgs false
open Go.RowKit

theorem arg_nil8 (w : World) : Arg .u8 w none 0 0 [] := arg_of (.inl ⟨rfl, rfl, rfl, rfl⟩)
theorem gotL_nil : Pg.gotL [] = false := decide_eq_false fun e => by have := (of_decide_eq_true e.1).1; simp at this
theorem gotF_nil : Pg.gotF [] = false := decide_eq_false fun e => by have := (of_decide_eq_true e.1).1; simp at this
theorem tellsL_nil : Pg.tellsL [] = Pg.nil := by unfold Pg.tellsL; rw [gotL_nil]; rfl
theorem tellsF_nil : Pg.tellsF [] = Pg.nilF := by unfold Pg.tellsF; rw [gotF_nil]; rfl
theorem lives_take (l : List Pg.Seat) (j : Nat) (h : j < l.length) : livesN (l.take (j + 1)) = livesN (l.take j) + (if l[j].live = true then 1 else 0) := by
  unfold livesN
  rw [List.take_succ_eq_append_getElem h, List.countP_append]
  simp [List.countP_cons]

set_option maxRecDepth 100000 in
set_option maxHeartbeats 4000000 in
theorem pageleaves_any (l : List Pg.Seat) (w : World) (hl : l.length = 7) :
    Calls Try.prog 3 #[.agg (leafC l)] w fun e w' => e = .returned (.bool true) ∧ Below w.heap.size w w' := by
  obtain ⟨W, hW⟩ : ∃ W, W = w.alloc (.cells (leafC l) 26) := ⟨_, rfl⟩
  have hB0 : Below w.heap.size w W := by rw [hW]; exact (Below.refl _ _).alloc (Nat.le_refl _) _
  have hg0 : W.heap[w.heap.size]? = some (.cells (leafC l) 26 (0, 0)) := by rw [hW]; exact heap_alloc_new w _
  have HB0 := hide hB0
  have HG0 := hide hg0
  have hlt0 : w.heap.size < W.heap.size := (Array.getElem?_eq_some_iff.1 hg0).1
  have HLL := hide hl
  have HSF := hide (leaf_size hl)
  have HAW := hide (fun X => pgawake_any X)
  clear hB0 hg0
  go_enter Try.func3, Try.ntmps3
  go_wp2_with fail
  rw [← hW]
  refine (HAW.out _).mono ?_
  rintro e w1 ⟨rfl, hb1⟩
  have HB1 := hide hb1
  clear hb1 hW
  go_wp2_with fail
  go_loopw [3, 4] (fun n i wr => ∃ j : Nat, j ≤ 7 ∧ i = .int .i64 j ∧ n = .int .i64 (livesN (l.take j)) ∧ Below W.heap.size W wr) (fun _ i _ => 7 - (intOf i).toNat)
  case atStart => exact ⟨0, Nat.zero_le _, rfl, rfl, HB1.out⟩
  case round =>
    obtain ⟨j, hj, rfl, rfl, hb⟩ := hrel
    have HB := hide hb
    by_cases hlt : j < 7
    · have hjI : (j : Int) < 7 := by omega
      have hjl : j < l.length := by have := HLL.out; omega
      have kx : ∀ x : Later wr, x.val.heap[w.heap.size]? = some (.cells (leafC l) 26 (0, 0)) := fun x => (x.property.block _ (by have := hb.size; omega)).trans ((hb.block _ hlt0).trans HG0.out)
      have HLT := hide (lives_take l j hjl)
      have b0 := fun x => boxed_leaf (kx x) hjl
      have c0 : ∀ x : Later wr, x.val.cell? ⟨w.heap.size, j * 3, none⟩ = some (.bool l[j].live) := fun x => (b0 x).1
      have c1 : ∀ x : Later wr, x.val.cell? ⟨w.heap.size, j * 3 + 1, none⟩ = some (.int .i64 l[j].gen) := fun x => (b0 x).2.1
      have c2 : ∀ x : Later wr, x.val.cell? ⟨w.heap.size, j * 3 + 2, none⟩ = some (.int .i64 l[j].next) := fun x => (b0 x).2.2
      generalize l[j] = x at *
      clear hb b0 kx
      obtain ⟨b, g, n⟩ := x
      dsimp only at c0 c1 c2 HLT
      have HR := hide (fun x : Later wr => rightseat_any b g n x.val)
      have HS := hide (fun x : Later wr => rseat_any b g n x.val)
      generalize Pg.seatB ⟨b, g, n⟩ = q at *
      have hne := later_some wr
      have hqq : (q != q) = false := by simp
      go_wp2_with fail
      refine wp_region_later (by kernel_rfl) (by kernel_rfl) ?_
      repeat (go_big_quiet_step (first | (go_at_call 8; refine calls_later (HR.out _)) | (go_at_call 9; refine calls_later (HS.out _))))
      refine wpQuiet_nil ?_
      intro w9 hw9
      obtain ⟨⟨w9', hb9⟩, rfl⟩ := hw9
      have HB9 := hide (HB.out.trans (hb9.mono HB.out.size))
      have d0 := c0 ⟨w9, hb9⟩
      dsimp only at d0
      clear c0 c1 c2 hne hb9
      have hnl : livesN (l.take j) ≤ 7 := Nat.le_trans List.countP_le_length (by simp; omega)
      generalize livesN (l.take j) = nn at *
      have hwn : IntKind.i64.wrap ((nn : Int) + 1) = (nn : Int) + 1 := by rw [IntKind.wrap_i64]; omega
      cases b with
      | true =>
        go_wp2_with fail
        go_roundw
        case rel => exact ⟨j + 1, by omega, by go_num, by rw [HLT.out]; rfl, HB9.out⟩
        case measure => simp [intOf]; omega
      | false =>
        go_wp2_with fail
        go_roundw
        case rel => exact ⟨j + 1, by omega, by go_num, by rw [HLT.out]; rfl, HB9.out⟩
        case measure => simp [intOf]; omega
    · have hjI : ¬ (j : Int) < 7 := by omega
      obtain rfl : j = 7 := by omega
      have hta : l.take 7 = l := List.take_of_length_le (by have := HLL.out; omega)
      rw [hta] at *
      have hgr := (hb.block _ hlt0).trans HG0.out
      have HGR := hide hgr
      have HW0 : Hid (Below w.heap.size w wr) := HB0.out.trans (hb.mono HB0.out.size)
      have hsr : w.heap.size < wr.heap.size := Nat.lt_of_lt_of_le hlt0 hb.size
      have HL := hide (fun X => lives_any l X HLL.out)
      have HRL := hide (fun X => rleaf_any l X HLL.out)
      generalize livesN l = nn at *
      clear hb hgr HB
      by_cases hr : Pg.leafR l = true
      · have HP := hide (putleaf_yes l wr HLL.out hr)
        have HTL := hide (Pg.tells_leaf HLL.out hr)
        have HGB := hide (Pg.got_leaf HLL.out hr)
        have HBL := hide (Pg.leaf_length HLL.out)
        have HBB := hide (Pg.leaf_bytes HLL.out)
        have hEQ : ∀ W, (binOp .eql 26 (.agg (leafC l)) (.agg (leafC l))).run Try.prog W = .ok (.bool true) W := fun W => run_eql_leaf l HLL.out W
        rw [hr, if_pos rfl] at HRL
        clear hr
        generalize Pg.leaf l = bl at *
        go_wp2_with (refine wpList_load_row_on (by rfl) 26 _ rfl w.heap.size rfl 26 _ (0, 0) _ HGR.out Try.underlying26 rfl HSF.out ?_)
        refine HP.out.mono ?_
        rintro e w2 ⟨h, c, tail, rfl, hc, hcm, hh, hblk, hb2⟩
        have HA2 := hide (arg_tail hblk HBB.out HBL.out hc hcm)
        have HB2 := hide (HW0.out.trans (hb2.mono HW0.out.size))
        have HG2 := hide ((hb2.block _ hsr).trans HGR.out)
        clear hb2 hblk
        go_wp2_with (refine wpList_load_row_on (by rfl) 26 _ rfl w.heap.size rfl 26 _ (0, 0) _ HG2.out Try.underlying26 rfl HSF.out ?_)
        refine (HRL.out _).mono ?_
        rintro e w3 ⟨rfl, hb3⟩
        have HA3 := hide (HA2.out.below hb3)
        have HB3 := hide (HB2.out.trans (hb3.mono HB2.out.size))
        have HG3 := hide ((hb3.block _ (Array.getElem?_eq_some_iff.1 HG2.out).1).trans HG2.out)
        have HG := hide (getleaf_any HA3.out (by decide))
        rw [HTL.out, HGB.out] at HG
        clear hb3
        go_wp2_with fail
        refine HG.out.mono ?_
        rintro e w4 ⟨rfl, hb4⟩
        obtain ⟨X4, hX4⟩ : ∃ X4, X4 = (w4.alloc (.cells #[Value.bool false, Value.int .i64 0, Value.int .i64 0, Value.bool false, Value.int .i64 0, Value.int .i64 0, Value.bool false, Value.int .i64 0, Value.int .i64 0, Value.bool false, Value.int .i64 0, Value.int .i64 0, Value.bool false, Value.int .i64 0, Value.int .i64 0, Value.bool false, Value.int .i64 0, Value.int .i64 0, Value.bool false, Value.int .i64 0, Value.int .i64 0] 26)).setRow w4.heap.size (leafC l) := ⟨_, rfl⟩
        have hbX : Below w4.heap.size w4 X4 := by rw [hX4]; exact below_setRow ((Below.refl _ _).alloc (Nat.le_refl _) _) (Nat.le_refl _) _
        have HX4 : Hid (X4.heap[w4.heap.size]? = some (.cells (leafC l) 26 (0, 0))) := by show _ = _; rw [hX4]; exact setRow_heap _ _ _ _ _ _ (heap_alloc_new w4 _)
        have hb4' := hb4.trans (hbX.mono hb4.size)
        have HB4 := hide (HB3.out.trans (hb4'.mono HB3.out.size))
        have HG4 := hide ((hb4'.block _ (Array.getElem?_eq_some_iff.1 HG3.out).1).trans HG3.out)
        have HA4 := hide (HA3.out.below hb4')
        have hcv := conv_bytes c HA4.out.2.2.1
        have HSZ : Hid ((#[] : Array Value).size + 21 = (leafC l).size) := by show _ = _; rw [leafC_size, HLL.out]; rfl
        clear hb4 hbX hb4'
        generalize strOfNums bl = Y at *
        subst hX4
        go_wp2_with (first
          | (refine wpList_store_row rfl 26 _ _ rfl w4.heap.size (leafC l) rfl rfl 26 _ (heap_alloc_new w4 _) HSF.out HSZ.out (leafC_one _) ?_)
          | (refine wpList_load_row_on (by rfl) 26 _ rfl w.heap.size rfl 26 _ (0, 0) _ HG4.out Try.underlying26 rfl HSF.out ?_)
          | (refine wpList_load_row_on (by rfl) 26 _ rfl w4.heap.size rfl 26 _ (0, 0) _ HX4.out Try.underlying26 rfl HSF.out ?_)
          | (go_at_call 13; refine (HL.out _).mono ?_; rintro e w5 ⟨rfl, hb5⟩))
        go_ret
        exact ⟨rfl, HB4.out.trans (hb5.mono HB4.out.size)⟩
      · have hr' : Pg.leafR l = false := by simpa using hr
        have HP := hide (putleaf_no l wr HLL.out hr')
        rw [hr', if_neg (by decide)] at HRL
        clear hr hr'
        go_wp2_with (refine wpList_load_row_on (by rfl) 26 _ rfl w.heap.size rfl 26 _ (0, 0) _ HGR.out Try.underlying26 rfl HSF.out ?_)
        refine HP.out.mono ?_
        rintro e w2 ⟨rfl, hb2⟩
        have HB2 := hide (HW0.out.trans (hb2.mono HW0.out.size))
        have HG2 := hide ((hb2.block _ hsr).trans HGR.out)
        clear hb2
        go_wp2_with (refine wpList_load_row_on (by rfl) 26 _ rfl w.heap.size rfl 26 _ (0, 0) _ HG2.out Try.underlying26 rfl HSF.out ?_)
        refine (HRL.out _).mono ?_
        rintro e w3 ⟨rfl, hb3⟩
        have HB3 := hide (HB2.out.trans (hb3.mono HB2.out.size))
        have HG3 := hide ((hb3.block _ (Array.getElem?_eq_some_iff.1 HG2.out).1).trans HG2.out)
        have HG := hide (getleaf_any (arg_nil8 w3) (by decide))
        rw [gotL_nil, tellsL_nil] at HG
        clear hb3
        go_wp2_with fail
        refine HG.out.mono ?_
        rintro e w4 ⟨rfl, hb4⟩
        obtain ⟨X4, hX4⟩ : ∃ X4, X4 = (w4.alloc (.cells #[Value.bool false, Value.int .i64 0, Value.int .i64 0, Value.bool false, Value.int .i64 0, Value.int .i64 0, Value.bool false, Value.int .i64 0, Value.int .i64 0, Value.bool false, Value.int .i64 0, Value.int .i64 0, Value.bool false, Value.int .i64 0, Value.int .i64 0, Value.bool false, Value.int .i64 0, Value.int .i64 0, Value.bool false, Value.int .i64 0, Value.int .i64 0] 26)).setRow w4.heap.size (leafC Pg.nil) := ⟨_, rfl⟩
        have hbX : Below w4.heap.size w4 X4 := by rw [hX4]; exact below_setRow ((Below.refl _ _).alloc (Nat.le_refl _) _) (Nat.le_refl _) _
        have hb4' := hb4.trans (hbX.mono hb4.size)
        have HB4 := hide (HB3.out.trans (hb4'.mono HB3.out.size))
        have HG4 := hide ((hb4'.block _ (Array.getElem?_eq_some_iff.1 HG3.out).1).trans HG3.out)
        have hcv := conv_bytes 0 (arg_nil8 X4).2.2.1
        rw [← str_none] at hcv
        clear hb4 hbX hb4'
        subst hX4
        go_wp2_with (first
          | (refine wpList_store_row rfl 26 _ _ rfl w4.heap.size (leafC Pg.nil) rfl rfl 26 _ (heap_alloc_new w4 _) (leaf_size rfl) rfl (leafC_one _) ?_)
          | (refine wpList_load_row_on (by rfl) 26 _ rfl w.heap.size rfl 26 _ (0, 0) _ HG4.out Try.underlying26 rfl HSF.out ?_)
          | (go_at_call 13; refine (HL.out _).mono ?_; rintro e w5 ⟨rfl, hb5⟩))
        go_ret
        exact ⟨rfl, HB4.out.trans (hb5.mono HB4.out.size)⟩
end Go.Proofs.Ytjehcgkmapapbaa
