/-
  The document's Handle and ReadHandle: what each answers, for all arguments.
-/
import Derived.Test.YtinfjhfopmglaaaDoorDigA
import Derived.Test.YtinfjhfopmglaaaDoorRegs
import Derived.Laws.ResultCell
import Derived.Laws.Tables
namespace Go.Proofs.YtinfjhfopmglaaaDoor
set_option linter.unusedVariables false
set_option linter.unusedSimpArgs false
open Go.RowKit

set_option maxHeartbeats 1000000 in
theorem ref_handle_any (a b : Int) (w : World) (ha : Dig.fits a) (hb : Dig.fits b) :
    Calls Tryd.prog 15 #[.agg #[.int .i64 a, .int .i64 b]] w fun e w' => e = .returned (.string (strOfNums (Dig.htext a b))) ∧ Below w.heap.size w w' := by
  by_cases h1 : a < 0
  · have HT := hide (Dig.htext_neg (a := a) (b := b) (.inl h1))
    go_enter Tryd.func15, Tryd.ntmps15
    go_wp2
    go_ret
    exact ⟨by rw [HT.out]; rfl, (Below.refl _ _).alloc (Nat.le_refl _) _⟩
  · by_cases h2 : b < 0
    · have HT := hide (Dig.htext_neg (a := a) (b := b) (.inr h2))
      go_enter Tryd.func15, Tryd.ntmps15
      go_wp2
      go_ret
      exact ⟨by rw [HT.out]; rfl, (Below.refl _ _).alloc (Nat.le_refl _) _⟩
    · obtain ⟨W, hW⟩ : ∃ W, W = w.alloc (.cells #[.int .i64 a, .int .i64 b] 29) := ⟨_, rfl⟩
      have HBW : Hid (Below w.heap.size w W) := by show Below _ _ _; rw [hW]; exact (Below.refl _ _).alloc (Nat.le_refl _) _
      have hg : w.heap.size < W.heap.size := by rw [hW]; simp
      have c0 : W.cell? ⟨w.heap.size, 0, none⟩ = some (.int .i64 a) := by rw [hW]; simp
      have c1 : W.cell? ⟨w.heap.size, 1, none⟩ = some (.int .i64 b) := by rw [hW]; simp
      have k0 := fun x : Later W => (x.property.cell (p := ⟨w.heap.size, 0, none⟩) hg).trans c0
      have k1 := fun x : Later W => (x.property.cell (p := ⟨w.heap.size, 1, none⟩) hg).trans c1
      have HA := hide (fun x : Later W => ref_show_any a x.val ha)
      have HB := hide (fun x : Later W => ref_show_any b x.val hb)
      have HT : Hid (strOfNums (Dig.text a) ++ ⟨#[46]⟩ ++ strOfNums (Dig.text b) = strOfNums (Dig.htext a b)) := by
        show _ = _
        rw [show (⟨#[46]⟩ : ByteArray) = strOfNums [46] from rfl, str_append, str_append, Dig.htext_pos (by omega) (by omega), List.append_assoc]
        rfl
      have s1 := size_str (Dig.text a)
      have s2 := size_str (Dig.text b)
      have s3 : (Dig.text a).length ≤ 20 := Dig.text_length
      have s4 : (Dig.text b).length ≤ 20 := Dig.text_length
      have s5 : (⟨#[46]⟩ : ByteArray).size = 1 := rfl
      have hla := later_some W
      go_enter Tryd.func15, Tryd.ntmps15
      go_wp2_with fail
      rw [← hW]
      clear hW
      generalize strOfNums (Dig.text a) = A at *
      generalize strOfNums (Dig.text b) = B at *
      have q1 : ¬ 9223372036854775807 < A.size + 1 := by omega
      have q2 : ¬ 9223372036854775807 < A.size + 1 + B.size := by omega
      clear c0 c1 s1 s2 s3 s4
      refine wp_region_later (by kernel_rfl) (by kernel_rfl) ?_
      repeat (quiet_step (first | (go_at_call_of 11 (Value.int .i64 a); refine calls_later (HA.out _)) | (go_at_call_of 11 (Value.int .i64 b); refine calls_later (HB.out _))))
      refine wpQuiet_nil ?_
      intro w9 hw9
      obtain ⟨⟨w9', hb9⟩, rfl⟩ := hw9
      clear k0 k1
      go_wp2
      go_ret
      exact ⟨congrArg (fun x => Ending.returned (Value.string x)) HT.out, HBW.out.trans (hb9.mono HBW.out.size)⟩

theorem info_handle : (Tryd.prog.info? 29).map (·.size) = some 2 := by kernel_rfl

/-- a handle's cell and another value, answered. -/
theorem results_handle {fn : Func} {p u : Tmp} (h : fn.results = #[.cell p 29, .tmp u]) (tmps : Array Value) (W : World) (g : Nat) (cs : Array Value) (hp : tmps.getD p undef = .pointer (some ⟨g, 0, none⟩)) (hg : W.heap[g]? = some (.cells cs 29 (0, 0))) (hcs : cs.size = 2) :
    (results fn tmps).run Tryd.prog W = .ok (.tuple #[.agg cs, tmps.getD u undef]) W := by
  have hl := run_loadVar_row W g 29 29 cs (0, 0) _ hg Tryd.underlying29 rfl (by rw [hcs]; exact info_handle)
  rw [results_cell_tmp h, hp]
  simp [asAddr, hl, Result.andThen]

set_option maxHeartbeats 2000000 in
theorem ref_read_handle_any (l : List Int) (w : World) (hz : Nums.Bytes l) (hm : l.length ≤ 1000000) :
    Calls Tryd.prog 16 #[.string (strOfNums l)] w fun e w' => e = .returned (.tuple #[.agg #[.int .i64 (Dig.hread l).1.1, .int .i64 (Dig.hread l).1.2], .bool (Dig.hread l).2]) ∧ Below w.heap.size w w' := by
  have hsz := size_str l
  have hat := str_at l
  have hcut := str_cut l
  generalize hS : strOfNums l = S at *
  have HS := hide hS
  clear hS
  go_enter Tryd.func16, Tryd.ntmps16
  go_wp2
  go_loop [4] (fun i => ∃ k : Nat, k ≤ l.length ∧ i = .int .i64 k ∧ ∀ z ∈ l.take k, z ≠ 46) (fun i => l.length - (intOf i).toNat)
  case atStart => exact ⟨0, Nat.zero_le _, rfl, by simp⟩
  case round =>
    obtain ⟨k, hk, rfl, hno⟩ := hrel
    have HNo := hide hno
    clear hno
    by_cases hlt : k < l.length
    · have hi : (k : Int) < (S.size : Int) := by omega
      have hzk := hat k hlt hz (by omega)
      obtain ⟨z, hzz⟩ : ∃ z : Int, l[k] = z := ⟨_, rfl⟩
      rw [hzz] at hzk
      by_cases h46 : z = 46
      · have hb46 : (z == 46) = true := by simpa using h46
        have HCut : Hid (Dig.cut l = some (l.take k, l.drop (k + 1))) := by
          show _ = _
          have e : l = l.take k ++ 46 :: l.drop (k + 1) := by
            conv => lhs; rw [← List.take_append_drop k l, List.drop_eq_getElem_cons hlt, hzz, h46]
          conv => lhs; rw [e]
          exact Dig.cut_some _ _ HNo.out
        have c1 := hcut 0 k
        rw [List.drop_zero, Nat.sub_zero] at c1
        have c2 := hcut (k + 1) l.length
        rw [List.take_of_length_le (by simp)] at c2
        have HR1 := hide (fun W => ref_read_any (l.take k) W (Nums.bytes_take hz k) (by unfold maxLen; simp; omega))
        have HR2 := hide (fun W => ref_read_any (l.drop (k + 1)) W (Nums.bytes_drop hz (k + 1)) (by unfold maxLen; simp; omega))
        clear hat hcut
        have hW0 : Hid (Below w.heap.size w (w.alloc (.cells #[.int .i64 0, .int .i64 0] 29))) := (Below.refl _ _).alloc (Nat.le_refl _) _
        have HL : Hid (l = l.take k ++ 46 :: l.drop (k + 1)) := (Dig.cut_spec HCut.out).1
        generalize l.take k = p at *
        generalize l.drop (k + 1) = q at *
        go_wp2_with fail
        refine (HR1.out _).mono ?_
        rintro e w1 ⟨rfl, hb1⟩
        have g1 : w1.heap[w.heap.size]? = some (.cells #[.int .i64 0, .int .i64 0] 29 (0, 0)) := (hb1.block _ (by simp)).trans (heap_alloc_new w _)
        have HB1 := hide (hW0.out.trans (hb1.mono (by simp)))
        have hg1 : w.heap.size < w1.heap.size := Nat.lt_of_lt_of_le (by simp) hb1.size
        clear hb1
        go_wp2_with fail
        refine (HR2.out _).mono ?_
        rintro e w2 ⟨rfl, hb2⟩
        have HG2 := hide ((hb2.block _ hg1).trans g1)
        have HB2 := hide (HB1.out.trans (hb2.mono HB1.out.size))
        have hg2 : w.heap.size < w2.heap.size := Nat.lt_of_lt_of_le hg1 hb2.size
        clear hb2 g1
        have HH : Hid (Dig.hread l = if (Dig.read p).2 = true ∧ (Dig.read q).2 = true ∧ Dig.htext (Dig.read p).1 (Dig.read q).1 = l then (((Dig.read p).1, (Dig.read q).1), true) else ((0, 0), false)) := by
          show _ = _
          unfold Dig.hread
          rw [HCut.out]
        have f1 : Dig.fits (Dig.read p).1 := by
          unfold Dig.read
          split
          · exact Dig.num_fits p
          · unfold Dig.fits; omega
        have f2 : Dig.fits (Dig.read q).1 := by
          unfold Dig.read
          split
          · exact Dig.num_fits q
          · unfold Dig.fits; omega
        generalize (Dig.read p).1 = x at *
        generalize (Dig.read q).1 = y at *
        generalize (Dig.read p).2 = o1 at *
        generalize (Dig.read q).2 = o2 at *
        obtain ⟨W, hW⟩ : ∃ W, W = w2.alloc (.cells #[.int .i64 x, .int .i64 y] 29) := ⟨_, rfl⟩
        have HGW : Hid (W.heap[w.heap.size]? = some (.cells #[.int .i64 0, .int .i64 0] 29 (0, 0))) := by
          show _ = _
          rw [hW, heap_alloc_old _ _ hg2]
          exact HG2.out
        have HBW : Hid (Below w.heap.size w W) := by
          show Below _ _ _
          rw [hW]
          exact HB2.out.alloc HB2.out.size _
        have HHd := hide (fun W => ref_handle_any x y W f1 f2)
        by_cases hoo : o1 = true ∧ o2 = true
        · obtain ⟨rfl, rfl⟩ := hoo
          have HHW := hide (HHd.out W)
          subst hW
          by_cases he : Dig.htext x y = l
          · have HN : Hid (Dig.hread l = ((x, y), true)) := HH.out.trans (if_pos ⟨rfl, rfl, he⟩)
            have HE : Hid (strOfNums (Dig.htext x y) = S) := by show _ = _; rw [he]; exact HS.out
            rw [HE.out] at HHW
            clear he HH
            go_wp2_with fail
            refine HHW.out.mono ?_
            rintro e w4 ⟨rfl, hb4⟩
            have HG4 := hide ((hb4.block _ (show w.heap.size < _ by simp; omega)).trans HGW.out)
            have HGx : Hid (w4.heap[w2.heap.size]? = some (.cells #[.int .i64 x, .int .i64 y] 29 (0, 0))) := (hb4.block _ (by simp)).trans (heap_alloc_new w2 _)
            have HB4 := hide (HBW.out.trans (hb4.mono HBW.out.size))
            clear hb4
            go_wp2_with (first | (refine wpList_load_row rfl 29 _ rfl w2.heap.size rfl 29 #[.int .i64 x, .int .i64 y] (0, 0) _ HGx.out Tryd.underlying29 rfl info_handle ?_) | (refine wpList_store_row rfl 29 _ _ rfl w.heap.size #[.int .i64 x, .int .i64 y] rfl rfl 29 #[.int .i64 0, .int .i64 0] HG4.out info_handle rfl (blk_one .i64 [x, y]) ?_))
            (try simp only [Exit.inBlock, Exit.then]); refine bodyPost_ret (results_handle rfl _ _ w.heap.size #[.int .i64 x, .int .i64 y] rfl (setRow_heap _ _ _ _ _ _ HG4.out) rfl) rfl ?_
            exact ⟨by rw [HN.out]; rfl, below_setRow HB4.out (Nat.le_refl _) _⟩
          · have HN : Hid (Dig.hread l = ((0, 0), false)) := HH.out.trans (if_neg (fun h => he h.2.2))
            have hne := str_ne (s := strOfNums (Dig.htext x y)) (t := S) (fun e => he (str_inj (Dig.htext_bytes x y) hz (e.trans HS.out.symm)))
            generalize strOfNums (Dig.htext x y) = T at *
            clear he HH
            go_wp2_with fail
            refine HHW.out.mono ?_
            rintro e w4 ⟨rfl, hb4⟩
            have HG4 := hide ((hb4.block _ (show w.heap.size < _ by simp; omega)).trans HGW.out)
            have HB4 := hide (HBW.out.trans (hb4.mono HBW.out.size))
            clear hb4
            go_wp2_with (refine wpList_store_row rfl 29 _ _ rfl w.heap.size #[.int .i64 0, .int .i64 0] rfl rfl 29 #[.int .i64 0, .int .i64 0] HG4.out info_handle rfl (blk_one .i64 [0, 0]) ?_)
            (try simp only [Exit.inBlock, Exit.then]); refine bodyPost_ret (results_handle rfl _ _ w.heap.size #[.int .i64 0, .int .i64 0] rfl (setRow_heap _ _ _ _ _ _ HG4.out) rfl) rfl ?_
            exact ⟨by rw [HN.out]; rfl, below_setRow HB4.out (Nat.le_refl _) _⟩
        · have HN : Hid (Dig.hread l = ((0, 0), false)) := HH.out.trans (if_neg (fun h => hoo ⟨h.1, h.2.1⟩))
          have hoo' : o1 = false ∨ (o1 = true ∧ o2 = false) := by
            cases o1 <;> cases o2 <;> simp_all
          clear hoo HH
          subst hW
          rcases hoo' with rfl | ⟨rfl, rfl⟩
          all_goals
            go_wp2_with (refine wpList_store_row rfl 29 _ _ rfl w.heap.size #[.int .i64 0, .int .i64 0] rfl rfl 29 #[.int .i64 0, .int .i64 0] HGW.out info_handle rfl (blk_one .i64 [0, 0]) ?_)
            (try simp only [Exit.inBlock, Exit.then]); refine bodyPost_ret (results_handle rfl _ _ w.heap.size #[.int .i64 0, .int .i64 0] rfl (setRow_heap _ _ _ _ _ _ HGW.out) rfl) rfl ?_
            exact ⟨by rw [HN.out]; rfl, below_setRow HBW.out (Nat.le_refl _) _⟩
      · have hb46 : (z == 46) = false := by simpa using h46
        clear hat hcut
        have HNo' : Hid (∀ y ∈ l.take (k + 1), y ≠ 46) := by
          intro y hy
          rw [List.take_succ_eq_append_getElem hlt, List.mem_append, List.mem_singleton] at hy
          rcases hy with hy | hy
          · exact HNo.out y hy
          · rw [hy, hzz]; exact h46
        go_wp2_with fail
        go_round
        case rel => exact ⟨k + 1, by omega, by go_num, HNo'.out⟩
        case measure => simp [intOf]; omega
    · have hi : ¬ (k : Int) < (S.size : Int) := by omega
      obtain rfl : k = l.length := by omega
      have HN : Hid (Dig.hread l = ((0, 0), false)) := by
        have h := HNo.out
        rw [List.take_of_length_le (Nat.le_refl _)] at h
        show _ = _
        unfold Dig.hread
        rw [Dig.cut_none l h]
      clear hat hcut
      go_wp2_with fail
      (try simp only [Exit.inBlock, Exit.then]); refine bodyPost_ret (results_handle rfl _ _ w.heap.size #[.int .i64 0, .int .i64 0] rfl (heap_alloc_new w _) rfl) rfl ?_
      exact ⟨by rw [HN.out]; rfl, (Below.refl _ _).alloc (Nat.le_refl _) _⟩
end Go.Proofs.YtinfjhfopmglaaaDoor
