/-
  Layer 10's statements: ChartMarks, where the block is the chart's.
-/
import Derived.Test.YtilnimdliebfnaaChLawE
namespace Go.Proofs.Ytilnimdliebfnaa
set_option linter.unusedVariables false
set_option linter.unusedSimpArgs false
open Go.RowKit

set_option maxRecDepth 100000 in
set_option maxHeartbeats 4000000 in
theorem chartmarks_yes (p : Int) (l : List Int) (at' : Int) (on : Bool) (w : World) (hl : l.length = 48) (hz : Nums.Bytes l) (hpw : (Lit.int .i64 p).wf = true) (hat : (Lit.int .i64 at').wf = true) (hm : markP p l at' = true) :
    Calls Try.prog 6 #[.agg (chartC p l), .int .i64 at', .bool on] w fun e w' => e = .returned (.bool true) ∧ Below w.heap.size w w' := by
  have hmm := Bool.and_eq_true_iff.1 hm
  have hp := hmm.1
  have hp' := of_decide_eq_true hp
  have hin := of_decide_eq_true hmm.2
  obtain ⟨a, ha⟩ : ∃ a : Nat, at' = 384 * p + (a : Int) := ⟨(at' - 384 * p).toNat, by omega⟩
  have ha384 : a < 384 := by omega
  have hat0 : (at' - 384 * p).toNat = a := by omega
  obtain ⟨M, hM⟩ : ∃ M, Ch.setB l a on = M := ⟨_, rfl⟩
  have HML : Hid (M.length = 48) := by show _ = _; rw [← hM, Ch.setB_length]; exact hl
  have HMZ : Hid (Nums.Bytes M) := by show Nums.Bytes _; rw [← hM]; exact Ch.setB_bytes hz a on
  have HBS : Hid (∀ i, Ch.bitB M i = if i = a then on else Ch.bitB l i) := fun i => by rw [← hM]; exact Ch.bit_set a i on (by omega)
  obtain ⟨W, hW⟩ : ∃ W, W = w.alloc (.cells (chartC p l) 24) := ⟨_, rfl⟩
  have hB0 : Below w.heap.size w W := by rw [hW]; exact (Below.refl _ _).alloc (Nat.le_refl _) _
  have hg0 : W.heap[w.heap.size]? = some (.cells (chartC p l) 24 (0, 0)) := by rw [hW]; exact heap_alloc_new w _
  have HB0 := hide hB0
  have HG0 := hide hg0
  have hlt0 : w.heap.size < W.heap.size := (Array.getElem?_eq_some_iff.1 hg0).1
  have HSF := hide (chart_size p hl)
  have HSM := hide (chart_size p HML.out)
  have HSZ : Hid ((#[] : Array Value).size + 49 = (chartC p M).size) := by show _ = _; rw [chartC_size, HML.out]; rfl
  have HAW := hide (fun X => chawake_any X)
  have HRT := hide (fun X => rchright_any p l X hl)
  rw [hp] at HRT
  have HMK := hide (fun X => cmark_yes p l at' on X hl hz hm)
  rw [hat0, hM] at HMK
  have HLS := hide (fun X : World => rchlist_any (w := X) p l hl hz)
  have HHS := hide (fun X => chas_any p M at' X HML.out HMZ.out hat hpw)
  have HHB : Hid (Ch.hasB p M at' = on) := by
    show _ = _
    unfold Ch.hasB
    rw [hp, decide_eq_true hin, hat0, HBS.out a, if_pos rfl]
    cases on <;> rfl
  rw [HHB.out] at HHS
  have HMD : Hid (Ch.made p (Ch.listTo p M 384) = M) := Ch.made_list p HML.out HMZ.out
  have HHL : Hid (∀ i : Nat, i < 384 → (Ch.list p l).any (fun x => decide (x = 384 * p + (i : Int))) = Ch.bitB l i) := fun i hi => by
    unfold Ch.list
    rw [hp, if_pos rfl]
    exact Ch.any_list p l 384 i hi
  have HLW : Hid (∀ x ∈ Ch.listTo p M 384, (Lit.int .i64 x).wf = true) := fun x hx => by
    obtain ⟨i, hi, rfl⟩ := List.mem_map.1 hx
    have := List.mem_range.1 (List.mem_filter.1 hi).1
    exact wf_of_bd ⟨by omega, by omega⟩
  have hEQ : ∀ W, (binOp .eql 24 (.agg (chartC p M)) (.agg (chartC p M))).run Try.prog W = .ok (.bool true) W := fun W => by
    have h := run_eql_chart p p M M HML.out HML.out W
    rw [decide_eq_true ⟨rfl, rfl⟩] at h
    exact h
  have w1' : IntKind.i64.wrap (384 * p) = 384 * p := by rw [IntKind.wrap_i64]; omega
  have w2' : IntKind.i64.wrap (384 * p + 384) = 384 * p + 384 := by rw [IntKind.wrap_i64]; omega
  have h1 : ¬ at' < 384 * p := by omega
  have h2 : ¬ 384 * p + 384 ≤ at' := by omega
  have HAA := hide ha
  clear hB0 hg0 hm hmm hin hat0 hM ha
  go_enter Try.func6, Try.ntmps6
  go_wp2_with fail
  rw [← hW]
  refine (HAW.out _).mono ?_
  rintro e w1 ⟨rfl, hb1⟩
  have HG1 := hide ((hb1.block _ hlt0).trans HG0.out)
  have HB1 := hide (HB0.out.trans (hb1.mono HB0.out.size))
  clear hb1 hW
  go_wp2_with (refine wpList_load_row_on (by rfl) 24 _ rfl w.heap.size rfl 24 _ (0, 0) _ HG1.out Try.underlying24 rfl HSF.out ?_)
  refine (HMK.out _).mono ?_
  rintro e w2 ⟨rfl, hb2⟩
  obtain ⟨X2, hX2⟩ : ∃ X2, X2 = (w2.alloc (.cells #[Value.int .i64 0, Value.int .u8 0, Value.int .u8 0, Value.int .u8 0, Value.int .u8 0, Value.int .u8 0, Value.int .u8 0, Value.int .u8 0, Value.int .u8 0, Value.int .u8 0, Value.int .u8 0, Value.int .u8 0, Value.int .u8 0, Value.int .u8 0, Value.int .u8 0, Value.int .u8 0, Value.int .u8 0, Value.int .u8 0, Value.int .u8 0, Value.int .u8 0, Value.int .u8 0, Value.int .u8 0, Value.int .u8 0, Value.int .u8 0, Value.int .u8 0, Value.int .u8 0, Value.int .u8 0, Value.int .u8 0, Value.int .u8 0, Value.int .u8 0, Value.int .u8 0, Value.int .u8 0, Value.int .u8 0, Value.int .u8 0, Value.int .u8 0, Value.int .u8 0, Value.int .u8 0, Value.int .u8 0, Value.int .u8 0, Value.int .u8 0, Value.int .u8 0, Value.int .u8 0, Value.int .u8 0, Value.int .u8 0, Value.int .u8 0, Value.int .u8 0, Value.int .u8 0, Value.int .u8 0, Value.int .u8 0] 24)).setRow w2.heap.size (chartC p M) := ⟨_, rfl⟩
  have hbX : Below w2.heap.size w2 X2 := by rw [hX2]; exact below_setRow ((Below.refl _ _).alloc (Nat.le_refl _) _) (Nat.le_refl _) _
  have HX2 : Hid (X2.heap[w2.heap.size]? = some (.cells (chartC p M) 24 (0, 0))) := by show _ = _; rw [hX2]; exact setRow_heap _ _ _ _ _ _ (heap_alloc_new w2 _)
  have hb2' := hb2.trans (hbX.mono hb2.size)
  have HB2 := hide (HB1.out.trans (hb2'.mono HB1.out.size))
  have hg2 := (hb2'.block _ (Array.getElem?_eq_some_iff.1 HG1.out).1).trans HG1.out
  have HG2 := hide hg2
  clear hb2 hbX hb2' hg2
  go_wp2_with (first
    | (refine wpList_store_row rfl 24 _ _ rfl w2.heap.size (chartC p M) rfl rfl 24 _ (heap_alloc_new w2 _) HSM.out HSZ.out (chartC_one _ _) ?_; rw [← hX2]; clear hX2)
    | (refine wpList_load_row_on (by rfl) 24 _ rfl w.heap.size rfl 24 _ (0, 0) _ HG2.out Try.underlying24 rfl HSF.out ?_))
  refine (HRT.out _).mono ?_
  rintro e w3 ⟨rfl, hb3⟩
  have HX3 := hide ((hb3.block _ (Array.getElem?_eq_some_iff.1 HX2.out).1).trans HX2.out)
  have HB3 := hide (HB2.out.trans (hb3.mono HB2.out.size))
  have hg3 := (hb3.block _ (Array.getElem?_eq_some_iff.1 HG2.out).1).trans HG2.out
  have c0 := (boxed_chart hg3).1
  have HG3 := hide hg3
  clear hb3 hg3
  go_wp2_with (refine wpList_load_row_on (by rfl) 24 _ rfl w.heap.size rfl 24 _ (0, 0) _ HG3.out Try.underlying24 rfl HSF.out ?_)
  refine HLS.out _ |>.mono ?_
  rintro e w4 ⟨al, nl, cl, rfl, hAL, hb4⟩
  have HX4 := hide ((hb4.block _ (Array.getElem?_eq_some_iff.1 HX3.out).1).trans HX3.out)
  have HB4 := hide (HB3.out.trans (hb4.mono HB3.out.size))
  have HG4 := hide ((hb4.block _ (Array.getElem?_eq_some_iff.1 HG3.out).1).trans HG3.out)
  have HAL := hide hAL
  have hnl : nl ≤ 384 := by have := hAL.2.2.1.1; have := Ch.list_le p l; omega
  clear hb4 hAL
  obtain ⟨i0, hi0, hz0, hz1, hz2⟩ := info_parts info_int64
  have HAT := hide hat
  clear hat hz hpw
  go_wp2_with fail
  go_loopw [10, 11] (fun v i wr => ∃ j : Nat, j ≤ 384 ∧ i = .int .i64 j ∧ wr.ownsRow w4.heap.size 3 1 v (Ch.listTo p M j).length ((Ch.listTo p M j).map (Value.int .i64)) ∧ Below w4.heap.size w4 wr) (fun _ i _ => 384 - (intOf i).toNat)
  case atStart => exact ⟨0, Nat.zero_le _, rfl, ⟨rfl, .inl ⟨rfl, rfl⟩⟩, Below.refl _ _⟩
  case round =>
    obtain ⟨j, hj, rfl, hown, hb⟩ := hrel
    have HOWN := hide hown
    have HBB := hide hb
    by_cases hlt : j < 384
    · have hjI : (j : Int) < 384 := by omega
      have c0 : wr.cell? ⟨w.heap.size, 0, none⟩ = some (.int .i64 p) := (boxed_chart ((hb.block _ (Array.getElem?_eq_some_iff.1 HG4.out).1).trans HG4.out)).1
      have HSU := hide (Ch.list_succ p M j)
      have hLl := Ch.list_length p M j
      obtain ⟨K, hK⟩ : ∃ K : Int, 384 * p + (j : Int) = K := ⟨_, rfl⟩
      have hwk : IntKind.i64.wrap (384 * p + (j : Int)) = K := by rw [IntKind.wrap_i64]; omega
      rw [hK] at HSU
      by_cases hja : j = a
      · have hKe : K = at' := by have := HAA.out; omega
        have hke : (K == at') = true := by simpa using hKe
        have hkn : (K != at') = false := by simpa using hKe
        rw [HBS.out j, if_pos hja] at HSU
        clear hown hb hja hK hKe
        cases on with
        | true =>
          rw [if_pos rfl] at HSU
          obtain ⟨L, hL⟩ : ∃ L, Ch.listTo p M j = L := ⟨_, rfl⟩
          rw [hL] at HSU HOWN hLl
          have hsz := HBB.out.size
          clear hL
          go_wp2_with (at_builtin; refine wpList_append_own _ rfl _ _ 34 rfl w4.heap.size 3 i0 _ 1 8 Try.underlying34 hi0 hz0 hz1 hz2 rfl (by decide) u10 L.length (L.map (Value.int .i64)) rfl (HOWN.out.alloc _) ⟨wr.heap.size, 0, none⟩ 1 1 [.int .i64 K] rfl rfl (cell_one_new _ _ _) (by simp [Value.oneCell']) (by unfold maxLen; omega) (by omega) (by simp; omega) ?_; intro v' w5 hown2 hgrow hiff)
          have HON := hide hown2
          have HBN := hide (own_below (HOWN.out.alloc _) hgrow (by simp; omega) (HBB.out.alloc hsz _) (Nat.le_refl _))
          clear hown2 hgrow hiff
          go_wp2_with fail
          go_roundw
          case rel => exact ⟨j + 1, by omega, by go_num, by rw [HSU.out, List.length_append, List.map_append]; exact HON.out, HBN.out⟩
          case measure => simp [intOf]; omega
        | false =>
          rw [if_neg (by decide)] at HSU
          go_wp2_with fail
          go_roundw
          case rel => exact ⟨j + 1, by omega, by go_num, by rw [HSU.out, List.append_nil]; exact HOWN.out, HBB.out⟩
          case measure => simp [intOf]; omega
      · have hKe : ¬ K = at' := by have := HAA.out; omega
        have hke : (K == at') = false := by simpa using hKe
        have hkn : (K != at') = true := by simpa using hKe
        have HHA := hide (rchhas_any (HAL.out.below hb) (by omega) K)
        have hq := HHL.out j hlt
        rw [hK] at hq
        rw [hq] at HHA
        rw [HBS.out j, if_neg hja] at HSU
        clear hown hb hja hK hKe hq
        generalize Ch.bitB l j = q at *
        cases q with
        | true =>
          rw [if_pos rfl] at HSU
          go_wp2_with fail
          refine HHA.out.mono ?_
          rintro e w7 ⟨rfl, hw7⟩
          obtain rfl := hw7.symm
          obtain ⟨L, hL⟩ : ∃ L, Ch.listTo p M j = L := ⟨_, rfl⟩
          rw [hL] at HSU HOWN hLl
          have hsz := HBB.out.size
          clear hL
          go_wp2_with (at_builtin; refine wpList_append_own _ rfl _ _ 34 rfl w4.heap.size 3 i0 _ 1 8 Try.underlying34 hi0 hz0 hz1 hz2 rfl (by decide) u10 L.length (L.map (Value.int .i64)) rfl (HOWN.out.alloc _) ⟨wr.heap.size, 0, none⟩ 1 1 [.int .i64 K] rfl rfl (cell_one_new _ _ _) (by simp [Value.oneCell']) (by unfold maxLen; omega) (by omega) (by simp; omega) ?_; intro v' w5 hown2 hgrow hiff)
          have HON := hide hown2
          have HBN := hide (own_below (HOWN.out.alloc _) hgrow (by simp; omega) (HBB.out.alloc hsz _) (Nat.le_refl _))
          clear hown2 hgrow hiff
          go_wp2_with fail
          go_roundw
          case rel => exact ⟨j + 1, by omega, by go_num, by rw [HSU.out, List.length_append, List.map_append]; exact HON.out, HBN.out⟩
          case measure => simp [intOf]; omega
        | false =>
          rw [if_neg (by decide)] at HSU
          go_wp2_with fail
          refine HHA.out.mono ?_
          rintro e w7 ⟨rfl, hw7⟩
          obtain rfl := hw7.symm
          go_wp2_with fail
          go_roundw
          case rel => exact ⟨j + 1, by omega, by go_num, by rw [HSU.out, List.append_nil]; exact HOWN.out, HBB.out⟩
          case measure => simp [intOf]; omega
    · have hjI : ¬ (j : Int) < 384 := by omega
      obtain rfl : j = 384 := by omega
      have HX5 := hide ((hb.block _ (Array.getElem?_eq_some_iff.1 HX4.out).1).trans HX4.out)
      have c0 : wr.cell? ⟨w.heap.size, 0, none⟩ = some (.int .i64 p) := (boxed_chart ((hb.block _ (Array.getElem?_eq_some_iff.1 HG4.out).1).trans HG4.out)).1
      have HB5 := hide (HB4.out.trans (hb.mono HB4.out.size))
      obtain ⟨av, cv, rfl, hAV, _⟩ := arg_of_own hown HLW.out
      have hlen := Ch.list_length p M 384
      have HMA := hide (fun x : Later wr => rchmade_any (hAV.below x.property) (by omega) p hp)
      rw [HMD.out] at HMA
      have HHX := hide (fun x : Later wr => HHS.out x.val)
      have hgx : ∀ X, (∃ x : Later wr, X = x.val) → X.heap[w2.heap.size]? = some (.cells (chartC p M) 24 (0, 0)) := fun X hx => by
        obtain ⟨x, rfl⟩ := hx
        exact (x.property.block _ (Array.getElem?_eq_some_iff.1 HX5.out).1).trans HX5.out
      have HGX := hide hgx
      have hne := later_some wr
      have k0 : ∀ x : Later wr, x.val.cell? ⟨w.heap.size, 0, none⟩ = some (.int .i64 p) := fun x => (boxed_chart ((x.property.block _ (Nat.lt_of_lt_of_le (Array.getElem?_eq_some_iff.1 HG4.out).1 hb.size)).trans ((hb.block _ (Array.getElem?_eq_some_iff.1 HG4.out).1).trans HG4.out))).1
      have hoo : (on == on) = true := by simp
      have hwl : w.heap.size < wr.heap.size := Nat.lt_of_lt_of_le (Array.getElem?_eq_some_iff.1 HG4.out).1 hb.size
      generalize (Ch.listTo p M 384).length = nv at *
      clear hown hb hAV HOWN HBB hlen hgx c0
      go_wp2_with fail
      refine wp_region_later (by kernel_rfl) (by kernel_rfl) ?_
      repeat (first
        | (refine wpQuiet_load_row_on (by rfl) 24 _ rfl w2.heap.size rfl 24 _ (0, 0) _ HGX.out Try.underlying24 rfl HSM.out ?_; simp only [Act.put, List.setIfInBounds_toArray, List.set_cons_zero, List.set_cons_succ])
        | go_big_quiet_step (first | rfl | (go_at_call 21; refine calls_later (HMA.out _)) | (go_at_call 18; refine calls_later (HHX.out _))))
      refine wpQuiet_nil ?_
      intro w9 hw9
      obtain ⟨⟨w9', hb9⟩, rfl⟩ := hw9
      have HB9 := hide (HB5.out.trans (hb9.mono HB5.out.size))
      clear hb9
      go_wp2_with fail
      go_ret
      exact ⟨rfl, HB9.out⟩

theorem chartmarks_any (p : Int) (l : List Int) (at' : Int) (on : Bool) (w : World) (hl : l.length = 48) (hz : Nums.Bytes l) (hpw : (Lit.int .i64 p).wf = true) (hat : (Lit.int .i64 at').wf = true) :
    Calls Try.prog 6 #[.agg (chartC p l), .int .i64 at', .bool on] w fun e w' => e = .returned (.bool true) ∧ Below w.heap.size w w' := by
  cases hm : markP p l at' with
  | true => exact chartmarks_yes p l at' on w hl hz hpw hat hm
  | false => exact chartmarks_no p l at' on w hl hpw hat hm
end Go.Proofs.Ytilnimdliebfnaa
