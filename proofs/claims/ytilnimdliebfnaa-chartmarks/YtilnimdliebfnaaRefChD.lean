/-
  The document's answers (layer 10): Get.
-/
import Derived.Test.YtilnimdliebfnaaRefChC
namespace Go.Proofs.Ytilnimdliebfnaa
set_option linter.unusedVariables false
set_option linter.unusedSimpArgs false
open Go.RowKit

set_option maxRecDepth 100000 in
set_option maxHeartbeats 2000000 in
theorem rchget_other {w : World} {a : Option Addr} {len cap : Nat} {zs : List Int} (hA : Arg .u8 w a len cap zs) (hl : len ≤ 100000) (h : ¬ (Bk.isB zs = true ∧ zs.getD 4 0 = 4 ∧ zs.getD 5 0 ≤ 7)) :
    Calls Try.prog 12 #[.slice a len cap] w fun e w' => e = .returned (.tuple #[.agg (chartC (Ch.tellsP zs) (Ch.tellsL zs)), .bool (Ch.got zs)]) ∧ Below w.heap.size w w' := by
  have hg : Ch.got zs = false := decide_eq_false fun e => h ⟨e.1, e.2.1, e.2.2.1⟩
  have ht : Ch.tellsP zs = 0 ∧ Ch.tellsL zs = Ch.nil := by unfold Ch.tellsP Ch.tellsL; rw [hg]; exact ⟨rfl, rfl⟩
  obtain ⟨V, hV⟩ : ∃ V : Value, V = .tuple #[.agg (chartC (Ch.tellsP zs) (Ch.tellsL zs)), .bool (Ch.got zs)] := ⟨_, rfl⟩
  rw [← hV]
  rw [hg, ht.1, ht.2] at hV
  have HV := hide hV
  obtain ⟨W, hW⟩ : ∃ W, W = w.alloc (.cells #[Value.int .i64 0, Value.int .u8 0, Value.int .u8 0, Value.int .u8 0, Value.int .u8 0, Value.int .u8 0, Value.int .u8 0, Value.int .u8 0, Value.int .u8 0, Value.int .u8 0, Value.int .u8 0, Value.int .u8 0, Value.int .u8 0, Value.int .u8 0, Value.int .u8 0, Value.int .u8 0, Value.int .u8 0, Value.int .u8 0, Value.int .u8 0, Value.int .u8 0, Value.int .u8 0, Value.int .u8 0, Value.int .u8 0, Value.int .u8 0, Value.int .u8 0, Value.int .u8 0, Value.int .u8 0, Value.int .u8 0, Value.int .u8 0, Value.int .u8 0, Value.int .u8 0, Value.int .u8 0, Value.int .u8 0, Value.int .u8 0, Value.int .u8 0, Value.int .u8 0, Value.int .u8 0, Value.int .u8 0, Value.int .u8 0, Value.int .u8 0, Value.int .u8 0, Value.int .u8 0, Value.int .u8 0, Value.int .u8 0, Value.int .u8 0, Value.int .u8 0, Value.int .u8 0, Value.int .u8 0, Value.int .u8 0] 24) := ⟨_, rfl⟩
  have hb0 : Below w.heap.size w W := by rw [hW]; exact (Below.refl _ _).alloc (Nat.le_refl _) _
  have hg0 : W.heap[w.heap.size]? = some (.cells (chartC 0 Ch.nil) 24 (0, 0)) := by rw [hW]; exact heap_alloc_new w _
  have HO := hide (ropen_any (hA.below hb0) hl)
  have HB0 := hide hb0
  have HG0 := hide hg0
  have hb4 := Ch.byte_at hA.bytes 4
  have hb5 := Ch.byte_at hA.bytes 5
  clear hA hg ht hb0 hg0 hV
  have hcase : Bk.isB zs = false ∨ (Bk.isB zs = true ∧ (zs.getD 4 0 ≠ 4 ∨ (zs.getD 4 0 = 4 ∧ 7 < zs.getD 5 0))) := by
    cases hB : Bk.isB zs with
    | false => exact .inl rfl
    | true =>
      refine .inr ⟨rfl, ?_⟩
      by_cases h4 : zs.getD 4 0 = 4
      · exact .inr ⟨h4, by have : ¬ zs.getD 5 0 ≤ 7 := fun e => h ⟨hB, h4, e⟩; omega⟩
      · exact .inl h4
  clear h
  rcases hcase with hB | ⟨hB, h4 | ⟨h4, h5⟩⟩
  · rw [if_neg (by rw [hB]; decide)] at HO
    clear hB
    go_enter Try.func12, Try.ntmps12
    go_wp2_with fail
    rw [← hW]
    refine HO.out.mono ?_
    rintro e w1 ⟨rfl, hb1⟩
    have HG9 := hide ((hb1.block _ ((Array.getElem?_eq_some_iff.1 HG0.out).1)).trans HG0.out)
    have HB9 := hide (HB0.out.trans (hb1.mono HB0.out.size))
    clear hb1
    go_wp2_with (refine wpList_store_row rfl 24 _ _ rfl w.heap.size (chartC 0 Ch.nil) rfl rfl 24 (chartC 0 Ch.nil) HG9.out info_chart rfl (chartC_one _ _) ?_)
    (try simp only [Exit.inBlock, Exit.then]); refine bodyPost_ret (results_row rfl Try.underlying24 _ _ w.heap.size (chartC 0 Ch.nil) rfl (setRow_heap _ _ _ _ _ _ HG9.out) info_chart) rfl ?_
    exact ⟨by rw [HV.out]; rfl, below_setRow HB9.out (Nat.le_refl _) _⟩
  · rw [if_pos hB] at HO
    clear hB
    generalize zs.getD 4 0 = k at *
    generalize zs.getD 5 0 = t at *
    generalize strOfNums (zs.drop 8) = S at *
    have hk1 : (k != 4) = true := by simpa using h4
    go_enter Try.func12, Try.ntmps12
    go_wp2_with fail
    rw [← hW]
    refine HO.out.mono ?_
    rintro e w1 ⟨rfl, hb1⟩
    have HG9 := hide ((hb1.block _ ((Array.getElem?_eq_some_iff.1 HG0.out).1)).trans HG0.out)
    have HB9 := hide (HB0.out.trans (hb1.mono HB0.out.size))
    clear hb1
    go_wp2_with (refine wpList_store_row rfl 24 _ _ rfl w.heap.size (chartC 0 Ch.nil) rfl rfl 24 (chartC 0 Ch.nil) HG9.out info_chart rfl (chartC_one _ _) ?_)
    (try simp only [Exit.inBlock, Exit.then]); refine bodyPost_ret (results_row rfl Try.underlying24 _ _ w.heap.size (chartC 0 Ch.nil) rfl (setRow_heap _ _ _ _ _ _ HG9.out) info_chart) rfl ?_
    exact ⟨by rw [HV.out]; rfl, below_setRow HB9.out (Nat.le_refl _) _⟩
  · rw [if_pos hB, h4] at HO
    clear hB h4 hb4
    generalize zs.getD 5 0 = t at *
    generalize strOfNums (zs.drop 8) = S at *
    go_enter Try.func12, Try.ntmps12
    go_wp2_with fail
    rw [← hW]
    refine HO.out.mono ?_
    rintro e w1 ⟨rfl, hb1⟩
    have HG9 := hide ((hb1.block _ ((Array.getElem?_eq_some_iff.1 HG0.out).1)).trans HG0.out)
    have HB9 := hide (HB0.out.trans (hb1.mono HB0.out.size))
    clear hb1
    go_wp2_with (refine wpList_store_row rfl 24 _ _ rfl w.heap.size (chartC 0 Ch.nil) rfl rfl 24 (chartC 0 Ch.nil) HG9.out info_chart rfl (chartC_one _ _) ?_)
    (try simp only [Exit.inBlock, Exit.then]); refine bodyPost_ret (results_row rfl Try.underlying24 _ _ w.heap.size (chartC 0 Ch.nil) rfl (setRow_heap _ _ _ _ _ _ HG9.out) info_chart) rfl ?_
    exact ⟨by rw [HV.out]; rfl, below_setRow HB9.out (Nat.le_refl _) _⟩

set_option maxRecDepth 100000 in
set_option maxHeartbeats 4000000 in
theorem rchget_chart {w : World} {a : Option Addr} {len cap : Nat} {zs : List Int} (hA : Arg .u8 w a len cap zs) (hl : len ≤ 100000) (hB : Bk.isB zs = true) (h4 : zs.getD 4 0 = 4) (h5 : zs.getD 5 0 ≤ 7) :
    Calls Try.prog 12 #[.slice a len cap] w fun e w' => e = .returned (.tuple #[.agg (chartC (Ch.tellsP zs) (Ch.tellsL zs)), .bool (Ch.got zs)]) ∧ Below w.heap.size w w' := by
  have hz := hA.bytes
  have hzl : zs.length = 64 := (of_decide_eq_true hB).1
  have hb5 := Ch.byte_at hz 5
  obtain ⟨V, hV⟩ : ∃ V : Value, V = .tuple #[.agg (chartC (Ch.tellsP zs) (Ch.tellsL zs)), .bool (Ch.got zs)] := ⟨_, rfl⟩
  rw [← hV]
  have HV0 := hide hV
  obtain ⟨t, ht⟩ : ∃ t, zs.getD 5 0 = t := ⟨_, rfl⟩
  obtain ⟨s, hs⟩ : ∃ s, s = zs.drop 8 := ⟨_, rfl⟩
  have hsz : Nums.Bytes s := by rw [hs]; exact Nums.bytes_drop hz 8
  have hsl : s.length = 56 := by rw [hs]; simp; omega
  have hp : Ch.right t = true := decide_eq_true ⟨by omega, by omega⟩
  have HGG : Hid (Ch.got zs = decide (Ch.block t (s.take 48) = zs)) := by
    show _ = _
    unfold Ch.got
    rw [← hs, ht]
    exact decide_eq_decide.2 ⟨fun e => e.2.2.2, fun e => ⟨hB, h4, by omega, e⟩⟩
  have HTP : Hid (Ch.got zs = true → Ch.tellsP zs = t ∧ Ch.tellsL zs = s.take 48) := fun e => by
    unfold Ch.tellsP Ch.tellsL
    rw [if_pos e, if_pos e, ht, hs]
    exact ⟨rfl, rfl⟩
  have HTN : Hid (Ch.got zs = false → Ch.tellsP zs = 0 ∧ Ch.tellsL zs = Ch.nil) := fun e => by
    unfold Ch.tellsP Ch.tellsL
    rw [e]
    exact ⟨rfl, rfl⟩
  obtain ⟨W, hW⟩ : ∃ W, W = w.alloc (.cells #[Value.int .i64 0, Value.int .u8 0, Value.int .u8 0, Value.int .u8 0, Value.int .u8 0, Value.int .u8 0, Value.int .u8 0, Value.int .u8 0, Value.int .u8 0, Value.int .u8 0, Value.int .u8 0, Value.int .u8 0, Value.int .u8 0, Value.int .u8 0, Value.int .u8 0, Value.int .u8 0, Value.int .u8 0, Value.int .u8 0, Value.int .u8 0, Value.int .u8 0, Value.int .u8 0, Value.int .u8 0, Value.int .u8 0, Value.int .u8 0, Value.int .u8 0, Value.int .u8 0, Value.int .u8 0, Value.int .u8 0, Value.int .u8 0, Value.int .u8 0, Value.int .u8 0, Value.int .u8 0, Value.int .u8 0, Value.int .u8 0, Value.int .u8 0, Value.int .u8 0, Value.int .u8 0, Value.int .u8 0, Value.int .u8 0, Value.int .u8 0, Value.int .u8 0, Value.int .u8 0, Value.int .u8 0, Value.int .u8 0, Value.int .u8 0, Value.int .u8 0, Value.int .u8 0, Value.int .u8 0, Value.int .u8 0] 24) := ⟨_, rfl⟩
  have hb0 : Below w.heap.size w W := by rw [hW]; exact (Below.refl _ _).alloc (Nat.le_refl _) _
  have hg0 : W.heap[w.heap.size]? = some (.cells (chartC 0 Ch.nil) 24 (0, 0)) := by rw [hW]; exact heap_alloc_new w _
  have hO := ropen_any (hA.below hb0) hl
  rw [if_pos hB, h4, ht, ← hs] at hO
  have HO := hide hO
  have HB0 := hide hb0
  have HG0 := hide hg0
  have HA := hide hA
  have hSz := size_str s
  rw [hsl] at hSz
  have HAT := hide (fun k h hs' => str_at s k h hsz hs')
  have HSL := hide hsl
  have HSB := hide hsz
  have ht7 : 0 ≤ t ∧ t ≤ 7 := by omega
  generalize strOfNums s = S at *
  clear hA hO hb0 hg0 hB h4 hzl hs hsz hsl hz hV hb5 ht h5
  go_enter Try.func12, Try.ntmps12
  go_wp2_with fail
  rw [← hW]
  clear hW
  refine HO.out.mono ?_
  rintro e w1 ⟨rfl, hb1⟩
  have HG1 := hide ((hb1.block _ ((Array.getElem?_eq_some_iff.1 HG0.out).1)).trans HG0.out)
  have HB1 := hide (HB0.out.trans (hb1.mono HB0.out.size))
  have hlt1 : w.heap.size < w1.heap.size := (Array.getElem?_eq_some_iff.1 HG1.out).1
  obtain ⟨X, hX⟩ : ∃ X, X = (w1.alloc (.cells #[Value.int .i64 0, Value.int .u8 0, Value.int .u8 0, Value.int .u8 0, Value.int .u8 0, Value.int .u8 0, Value.int .u8 0, Value.int .u8 0, Value.int .u8 0, Value.int .u8 0, Value.int .u8 0, Value.int .u8 0, Value.int .u8 0, Value.int .u8 0, Value.int .u8 0, Value.int .u8 0, Value.int .u8 0, Value.int .u8 0, Value.int .u8 0, Value.int .u8 0, Value.int .u8 0, Value.int .u8 0, Value.int .u8 0, Value.int .u8 0, Value.int .u8 0, Value.int .u8 0, Value.int .u8 0, Value.int .u8 0, Value.int .u8 0, Value.int .u8 0, Value.int .u8 0, Value.int .u8 0, Value.int .u8 0, Value.int .u8 0, Value.int .u8 0, Value.int .u8 0, Value.int .u8 0, Value.int .u8 0, Value.int .u8 0, Value.int .u8 0, Value.int .u8 0, Value.int .u8 0, Value.int .u8 0, Value.int .u8 0, Value.int .u8 0, Value.int .u8 0, Value.int .u8 0, Value.int .u8 0, Value.int .u8 0] 24)).setRow w1.heap.size (chartC t Ch.nil) := ⟨_, rfl⟩
  have hbX : Below w1.heap.size w1 X := by rw [hX]; exact below_setRow ((Below.refl _ _).alloc (Nat.le_refl _) _) (Nat.le_refl _) _
  have HX0 : Hid (X.heap[w1.heap.size]? = some (.cells (chartC t Ch.nil) 24 (0, 0))) := by show _ = _; rw [hX]; exact setRow_heap _ _ _ _ _ _ (heap_alloc_new w1 _)
  have HGX := hide ((hbX.block _ hlt1).trans HG1.out)
  have HBX := hide (HB1.out.trans (hbX.mono HB1.out.size))
  clear hb1 hbX
  go_wp2_with (refine wpList_store_row rfl 24 _ _ rfl w1.heap.size (chartC t Ch.nil) rfl rfl 24 _ (heap_alloc_new w1 _) (chart_size t rfl) rfl (chartC_one _ _) ?_; rw [← hX]; clear hX)
  obtain ⟨U9, hU9⟩ : ∃ U : Value, U = .agg #[Value.int .i64 t, Value.int .u8 0, Value.int .u8 0, Value.int .u8 0, Value.int .u8 0, Value.int .u8 0, Value.int .u8 0, Value.int .u8 0, Value.int .u8 0, Value.int .u8 0, Value.int .u8 0, Value.int .u8 0, Value.int .u8 0, Value.int .u8 0, Value.int .u8 0, Value.int .u8 0, Value.int .u8 0, Value.int .u8 0, Value.int .u8 0, Value.int .u8 0, Value.int .u8 0, Value.int .u8 0, Value.int .u8 0, Value.int .u8 0, Value.int .u8 0, Value.int .u8 0, Value.int .u8 0, Value.int .u8 0, Value.int .u8 0, Value.int .u8 0, Value.int .u8 0, Value.int .u8 0, Value.int .u8 0, Value.int .u8 0, Value.int .u8 0, Value.int .u8 0, Value.int .u8 0, Value.int .u8 0, Value.int .u8 0, Value.int .u8 0, Value.int .u8 0, Value.int .u8 0, Value.int .u8 0, Value.int .u8 0, Value.int .u8 0, Value.int .u8 0, Value.int .u8 0, Value.int .u8 0, Value.int .u8 0] := ⟨_, rfl⟩
  rw [← hU9]
  clear hU9
  go_loopw [9] (fun i wr => ∃ j : Nat, j ≤ 48 ∧ i = .int .i64 j ∧ wr.heap[w1.heap.size]? = some (.cells (chartC t (s.take j ++ List.replicate (48 - j) 0)) 24 (0, 0)) ∧ Below w1.heap.size X wr) (fun i _ => 48 - (intOf i).toNat)
  case atStart => exact ⟨0, Nat.zero_le _, rfl, HX0.out, Below.refl _ _⟩
  case round =>
    obtain ⟨j, hj, rfl, hgr, hbr⟩ := hrel
    have HGR := hide hgr
    have HBR := hide hbr
    by_cases hlt : j < 48
    · have hjI : (j : Int) < 48 := by omega
      have hsl := HSL.out
      obtain ⟨M, hM⟩ : ∃ M, s.take j ++ List.replicate (48 - j) (0 : Int) = M := ⟨_, rfl⟩
      have hMl : M.length = 48 := by rw [← hM]; simp; omega
      rw [hM] at hgr HGR
      have c0 : wr.cell? ⟨w1.heap.size, 1 + j, none⟩ = some (.int .u8 (M.getD j 0)) := by rw [Nat.add_comm 1 j]; exact (boxed_chart hgr).2 j (by omega)
      have f0 : wr.frozen? ⟨w1.heap.size, 1 + j, none⟩ = false := by simp [World.frozen?, hgr]
      have HST : Hid (∀ z : Int, z = s[j] → M.set j z = s.take (j + 1) ++ List.replicate (48 - (j + 1)) 0) := fun z e => by
        rw [← hM, e]
        obtain ⟨m, hm⟩ : ∃ m, 48 - j = m + 1 := ⟨48 - j - 1, by omega⟩
        rw [hm, show 48 - (j + 1) = m by omega, List.replicate_succ, List.set_append_right _ _ (by simp; omega), List.length_take, Nat.min_eq_left (by omega), Nat.sub_self, List.set_cons_zero, List.take_succ_eq_append_getElem (by omega), List.append_assoc]
        rfl
      have hjS : (j : Int) < 56 := by omega
      have hjS' : j < S.size := by omega
      generalize M.getD j 0 = old at c0
      clear hgr hbr hM
      go_wp2_with fail
      go_roundw
      case rel =>
        refine ⟨j + 1, by omega, by go_num, ?_, HBR.out.setCell (p := ⟨w1.heap.size, 1 + j, none⟩) (Nat.le_refl _) _⟩
        rw [heap_set HGR.out, Nat.add_comm 1 j, chartC_setB, HST.out _ (HAT.out j (by omega) hjS')]
      case measure => simp [intOf]; omega
    · have hjI : ¬ (j : Int) < 48 := by omega
      obtain rfl : j = 48 := by omega
      rw [Nat.sub_self, List.replicate_zero, List.append_nil] at hgr
      obtain ⟨F, hF⟩ : ∃ F, s.take 48 = F := ⟨_, rfl⟩
      rw [hF] at hgr HGG HTP
      have HFL : Hid (F.length = 48) := by show _ = _; rw [← hF]; have := HSL.out; simp; omega
      have HFB : Hid (Nums.Bytes F) := by show Nums.Bytes _; rw [← hF]; exact Nums.bytes_take HSB.out 48
      have hgx : ∀ X', (∃ x : Later wr, X' = x.val) → X'.heap[w1.heap.size]? = some (.cells (chartC t F) 24 (0, 0)) := fun X' hx => by
        obtain ⟨x, rfl⟩ := hx
        exact (x.property.block _ (Array.getElem?_eq_some_iff.1 hgr).1).trans hgr
      have HGF := hide hgx
      have HSF := hide (chart_size t HFL.out)
      have HBw := hide (HBX.out.trans (hbr.mono (Nat.le_of_lt hlt1)))
      have HRw := hide ((hbr.block _ hlt1).trans HGX.out)
      have hcv := fun x : Later wr => conv_bytes cap ((HA.out.2.2.1.below HBw.out).below x.property)
      have HPT := hide (fun x : Later wr => rchput_any t F x.val HFL.out hp HFB.out)
      have HBB := hide (Ch.block_bytes hp HFB.out)
      have hne := later_some wr
      have HSZ : Hid ((chartC 0 Ch.nil).size = (chartC t F).size) := by show _ = _; rw [chartC_size, chartC_size, HFL.out]; rfl
      clear hgr hbr hgx hF HGR HBR
      by_cases he : Ch.block t F = zs
      · have HV : Hid (V = .tuple #[.agg (chartC t F), .bool true]) := by
          have hgot : Ch.got zs = true := by rw [HGG.out, decide_eq_true he]
          obtain ⟨e1, e2⟩ := HTP.out hgot
          show V = _
          rw [HV0.out, hgot, e1, e2]
        rw [he] at HPT
        generalize strOfNums zs = X at *
        clear he
        go_wp2_with fail
        refine wp_region_later (by kernel_rfl) (by kernel_rfl) ?_
        repeat (first
          | (refine wpQuiet_load_row_on (by rfl) 24 _ rfl w1.heap.size rfl 24 _ (0, 0) _ HGF.out Try.underlying24 rfl HSF.out ?_; simp only [Act.put, List.setIfInBounds_toArray, List.set_cons_zero, List.set_cons_succ])
          | go_big_quiet_step (first | rfl | (go_at_call 11; refine calls_later (HPT.out _))))
        refine wpQuiet_nil ?_
        intro w9 hw9
        have HG9c := hide (HGF.out w9 hw9)
        obtain ⟨⟨w9', hb9⟩, rfl⟩ := hw9
        have HG9 := hide ((hb9.block _ (Array.getElem?_eq_some_iff.1 HRw.out).1).trans HRw.out)
        have HB9 := hide (HBw.out.trans (hb9.mono HBw.out.size))
        clear hcv hne hb9
        go_wp2_with (first | (refine wpList_load_row_on (by rfl) 24 _ rfl w1.heap.size rfl 24 _ (0, 0) _ HG9c.out Try.underlying24 rfl HSF.out ?_) | (refine wpList_store_row rfl 24 _ _ rfl w.heap.size (chartC t F) rfl rfl 24 _ HG9.out HSF.out HSZ.out (chartC_one _ _) ?_))
        (try simp only [Exit.inBlock, Exit.then]); refine bodyPost_ret (results_row rfl Try.underlying24 _ _ w.heap.size (chartC t F) rfl (setRow_heap _ _ _ _ _ _ HG9.out) HSF.out) rfl ?_
        exact ⟨by rw [HV.out]; rfl, below_setRow HB9.out (Nat.le_refl _) _⟩
      · have hbeq := str_ne (s := strOfNums (Ch.block t F)) (t := strOfNums zs) (fun e => he (str_inj HBB.out HA.out.bytes e))
        have HV : Hid (V = .tuple #[.agg (chartC 0 Ch.nil), .bool false]) := by
          have hgot : Ch.got zs = false := by rw [HGG.out, decide_eq_false he]
          obtain ⟨e1, e2⟩ := HTN.out hgot
          show V = _
          rw [HV0.out, hgot, e1, e2]
        generalize strOfNums (Ch.block t F) = Y at *
        generalize strOfNums zs = X at *
        clear he
        go_wp2_with fail
        refine wp_region_later (by kernel_rfl) (by kernel_rfl) ?_
        repeat (first
          | (refine wpQuiet_load_row_on (by rfl) 24 _ rfl w1.heap.size rfl 24 _ (0, 0) _ HGF.out Try.underlying24 rfl HSF.out ?_; simp only [Act.put, List.setIfInBounds_toArray, List.set_cons_zero, List.set_cons_succ])
          | go_big_quiet_step (first | rfl | (go_at_call 11; refine calls_later (HPT.out _))))
        refine wpQuiet_nil ?_
        intro w9 hw9
        obtain ⟨⟨w9', hb9⟩, rfl⟩ := hw9
        have HG9 := hide ((hb9.block _ (Array.getElem?_eq_some_iff.1 HRw.out).1).trans HRw.out)
        have HB9 := hide (HBw.out.trans (hb9.mono HBw.out.size))
        clear hcv hne hb9
        go_wp2_with (refine wpList_store_row rfl 24 _ _ rfl w.heap.size (chartC 0 Ch.nil) rfl rfl 24 _ HG9.out info_chart rfl (chartC_one _ _) ?_)
        (try simp only [Exit.inBlock, Exit.then]); refine bodyPost_ret (results_row rfl Try.underlying24 _ _ w.heap.size (chartC 0 Ch.nil) rfl (setRow_heap _ _ _ _ _ _ HG9.out) info_chart) rfl ?_
        exact ⟨by rw [HV.out]; rfl, below_setRow HB9.out (Nat.le_refl _) _⟩

theorem rchget_any {w : World} {a : Option Addr} {len cap : Nat} {zs : List Int} (hA : Arg .u8 w a len cap zs) (hl : len ≤ 100000) :
    Calls Try.prog 12 #[.slice a len cap] w fun e w' => e = .returned (.tuple #[.agg (chartC (Ch.tellsP zs) (Ch.tellsL zs)), .bool (Ch.got zs)]) ∧ Below w.heap.size w w' := by
  by_cases h : Bk.isB zs = true ∧ zs.getD 4 0 = 4 ∧ zs.getD 5 0 ≤ 7
  · exact rchget_chart hA hl h.1 h.2.1 h.2.2
  · exact rchget_other hA hl h
end Go.Proofs.Ytilnimdliebfnaa
