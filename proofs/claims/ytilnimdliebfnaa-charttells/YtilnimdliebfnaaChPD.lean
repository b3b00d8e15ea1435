/-
  chart.Get: what it answers.
-/
import Derived.Test.YtilnimdliebfnaaChPC
import Derived.Test.YtilnimdliebfnaaNdMore
namespace Go.Proofs.Ytilnimdliebfnaa
set_option linter.unusedVariables false
set_option linter.unusedSimpArgs false
open Go.RowKit

/-- a chart's block, told as the program asks. -/
theorem Ch.got_asked {zs : List Int} (hB : Bk.isB zs = true) (h4 : zs.getD 4 0 = 4) : Ch.got zs = (decide (zs.getD 5 0 ≤ 7) && zeroB ((zs.drop 8).drop 48)) := by
  have hl := (of_decide_eq_true hB).1
  have hsl : (zs.drop 8).length = 56 := by simp; omega
  have hbl : Ch.block (zs.getD 5 0) ((zs.drop 8).take 48) = zs ↔ zeroB ((zs.drop 8).drop 48) = true := by
    rw [← Nd.fill_zero hsl (by omega : 48 ≤ 56)]
    unfold Ch.block
    constructor
    · intro h
      have := (Bk.shut_parts (k := 4) (t := zs.getD 5 0) (body := (zs.drop 8).take 48)).2.2
      rw [h] at this
      exact this.symm
    · intro h
      have e := Bk.isB_same hB
      rw [h4] at e
      refine Eq.trans ?_ e
      simp only [Bk.shut, Bk.mid]
      rw [h, Bk.fill_full hsl]
  cases hq : (decide (zs.getD 5 0 ≤ 7) && zeroB ((zs.drop 8).drop 48)) with
  | true =>
    obtain ⟨q1, q2⟩ := Bool.and_eq_true_iff.1 hq
    exact decide_eq_true ⟨hB, h4, of_decide_eq_true q1, hbl.2 q2⟩
  | false =>
    refine decide_eq_false fun h => ?_
    obtain ⟨_, _, q1, q2⟩ := h
    rw [decide_eq_true q1, hbl.1 q2] at hq
    exact absurd hq (by decide)

/-- copy(c.Bits[:], body). -/
theorem copy_chart {W : World} {G : Nat} {t : Int} {a : Option Addr} {cap : Nat} {s : List Int} (hg : W.heap[G]? = some (.cells (chartC t Ch.nil) 24 (0, 0))) (hr : Row .u8 W a 56 s) :
    (Builtin.copy_ #[26, 26] 3 #[.slice (some ⟨G, 1, none⟩) 48 48, .slice a 56 cap]).run Try.prog W = .ok (.int .i64 48) (W.setRow G (chartC t (s.take 48))) := by
  have hl := hr.1
  obtain ⟨ad, rfl, hsrc⟩ := hr.src (by omega)
  have hr := run_copy_row (P := Try.prog) W 26 26 3 5 G 1 48 48 ad 56 cap (chartC t Ch.nil) 24 ((s.take 48).map (Value.int .u8)) Try.underlying26 (by kernel_rfl) hg (by simp; omega) (fun j v hj => hsrc j v (by
    rw [List.getElem?_map] at hj ⊢
    rw [List.getElem?_take] at hj
    split at hj
    · exact hj
    · cases hj)) (by rw [chartC_size]; simp [Ch.nil]; omega) (oneCells _ _)
  rw [hr]
  have e : ((chartC t Ch.nil).toList.take 1 ++ (s.take 48).map (Value.int .u8) ++ (chartC t Ch.nil).toList.drop (1 + ((s.take 48).map (Value.int .u8)).length)).toArray = chartC t (s.take 48) := by
    have h1 : (chartC t Ch.nil).toList.drop (1 + ((s.take 48).map (Value.int .u8)).length) = [] := by
      apply List.drop_eq_nil_of_le
      simp [chartC, Ch.nil]
      omega
    rw [h1, List.append_nil]
    rfl
  rw [e]
  congr 1
  simp [goInt]
  omega

set_option maxRecDepth 100000 in
set_option maxHeartbeats 2000000 in
theorem cget_other {w : World} {a : Option Addr} {len cap : Nat} {zs : List Int} (hA : Arg .u8 w a len cap zs) (hl : len ≤ 1000) (h : ¬ (Bk.isB zs = true ∧ zs.getD 4 0 = 4)) :
    Calls Try.prog 10 #[.slice a len cap] w fun e w' => e = .returned (.tuple #[.agg (chartC (Ch.tellsP zs) (Ch.tellsL zs)), .bool (Ch.got zs)]) ∧ Below w.heap.size w w' := by
  have hg : Ch.got zs = false := decide_eq_false fun e => h ⟨e.1, e.2.1⟩
  have ht : Ch.tellsP zs = 0 ∧ Ch.tellsL zs = Ch.nil := by unfold Ch.tellsP Ch.tellsL; rw [hg]; exact ⟨rfl, rfl⟩
  obtain ⟨V, hV⟩ : ∃ V : Value, V = .tuple #[.agg (chartC (Ch.tellsP zs) (Ch.tellsL zs)), .bool (Ch.got zs)] := ⟨_, rfl⟩
  rw [← hV]
  rw [hg, ht.1, ht.2] at hV
  have HV := hide hV
  obtain ⟨W, hW⟩ : ∃ W, W = w.alloc (.cells #[Value.int .i64 0, Value.int .u8 0, Value.int .u8 0, Value.int .u8 0, Value.int .u8 0, Value.int .u8 0, Value.int .u8 0, Value.int .u8 0, Value.int .u8 0, Value.int .u8 0, Value.int .u8 0, Value.int .u8 0, Value.int .u8 0, Value.int .u8 0, Value.int .u8 0, Value.int .u8 0, Value.int .u8 0, Value.int .u8 0, Value.int .u8 0, Value.int .u8 0, Value.int .u8 0, Value.int .u8 0, Value.int .u8 0, Value.int .u8 0, Value.int .u8 0, Value.int .u8 0, Value.int .u8 0, Value.int .u8 0, Value.int .u8 0, Value.int .u8 0, Value.int .u8 0, Value.int .u8 0, Value.int .u8 0, Value.int .u8 0, Value.int .u8 0, Value.int .u8 0, Value.int .u8 0, Value.int .u8 0, Value.int .u8 0, Value.int .u8 0, Value.int .u8 0, Value.int .u8 0, Value.int .u8 0, Value.int .u8 0, Value.int .u8 0, Value.int .u8 0, Value.int .u8 0, Value.int .u8 0, Value.int .u8 0] 24) := ⟨_, rfl⟩
  have hb0 : Below w.heap.size w W := by rw [hW]; exact (Below.refl _ _).alloc (Nat.le_refl _) _
  have hg0 : W.heap[w.heap.size]? = some (.cells (chartC 0 Ch.nil) 24 (0, 0)) := by rw [hW]; exact heap_alloc_new w _
  have HB0 := hide hb0
  have HG0 := hide hg0
  by_cases hB : Bk.isB zs = true
  · have HO := hide (bopen_yes (hA.below hb0) hl hB)
    have h4 : ¬ zs.getD 4 0 = 4 := fun e => h ⟨hB, e⟩
    clear hA hg ht hb0 hg0 hV h hB
    generalize zs.getD 4 0 = k at *
    generalize zs.getD 5 0 = t at *
    generalize zs.drop 8 = S at *
    have hk1 : (k != 4) = true := by simpa using h4
    go_enter Try.func10, Try.ntmps10
    go_wp2_with fail
    rw [← hW]
    refine HO.out.mono ?_
    rintro e w1 ⟨a', c', rfl, hA', hb1⟩
    have HG9 := hide ((hb1.block _ ((Array.getElem?_eq_some_iff.1 HG0.out).1)).trans HG0.out)
    have HB9 := hide (HB0.out.trans (hb1.mono HB0.out.size))
    clear hb1 hA' hW
    go_wp2_with (refine wpList_store_row rfl 24 _ _ rfl w.heap.size (chartC 0 Ch.nil) rfl rfl 24 (chartC 0 Ch.nil) HG9.out info_chart rfl (chartC_one _ _) ?_)
    (try simp only [Exit.inBlock, Exit.then]); refine bodyPost_ret (results_row rfl Try.underlying24 _ _ w.heap.size (chartC 0 Ch.nil) rfl (setRow_heap _ _ _ _ _ _ HG9.out) info_chart) rfl ?_
    exact ⟨by rw [HV.out]; rfl, below_setRow HB9.out (Nat.le_refl _) _⟩
  · have hBf : Bk.isB zs = false := by simpa using hB
    have HO := hide (bopen_no (hA.below hb0) hl hBf)
    clear hA hg ht hb0 hg0 hV h hB hBf
    go_enter Try.func10, Try.ntmps10
    go_wp2_with fail
    rw [← hW]
    refine HO.out.mono ?_
    rintro e w1 ⟨rfl, hb1⟩
    have HG9 := hide ((hb1.block _ ((Array.getElem?_eq_some_iff.1 HG0.out).1)).trans HG0.out)
    have HB9 := hide (HB0.out.trans (hb1.mono HB0.out.size))
    clear hb1 hW
    go_wp2_with (refine wpList_store_row rfl 24 _ _ rfl w.heap.size (chartC 0 Ch.nil) rfl rfl 24 (chartC 0 Ch.nil) HG9.out info_chart rfl (chartC_one _ _) ?_)
    (try simp only [Exit.inBlock, Exit.then]); refine bodyPost_ret (results_row rfl Try.underlying24 _ _ w.heap.size (chartC 0 Ch.nil) rfl (setRow_heap _ _ _ _ _ _ HG9.out) info_chart) rfl ?_
    exact ⟨by rw [HV.out]; rfl, below_setRow HB9.out (Nat.le_refl _) _⟩

set_option maxRecDepth 100000 in
set_option maxHeartbeats 4000000 in
theorem cget_chart {w : World} {a : Option Addr} {len cap : Nat} {zs : List Int} (hA : Arg .u8 w a len cap zs) (hl : len ≤ 1000) (hB : Bk.isB zs = true) (h4 : zs.getD 4 0 = 4) :
    Calls Try.prog 10 #[.slice a len cap] w fun e w' => e = .returned (.tuple #[.agg (chartC (Ch.tellsP zs) (Ch.tellsL zs)), .bool (Ch.got zs)]) ∧ Below w.heap.size w w' := by
  have hz := hA.bytes
  have hb5 := Ch.byte_at hz 5
  obtain ⟨V, hV⟩ : ∃ V : Value, V = .tuple #[.agg (chartC (Ch.tellsP zs) (Ch.tellsL zs)), .bool (Ch.got zs)] := ⟨_, rfl⟩
  rw [← hV]
  have HV0 := hide hV
  have HGG := hide (Ch.got_asked hB h4)
  have HTP : Hid (Ch.got zs = true → Ch.tellsP zs = zs.getD 5 0 ∧ Ch.tellsL zs = (zs.drop 8).take 48) := fun e => by
    unfold Ch.tellsP Ch.tellsL
    rw [if_pos e, if_pos e]
    exact ⟨rfl, rfl⟩
  have HTN : Hid (Ch.got zs = false → Ch.tellsP zs = 0 ∧ Ch.tellsL zs = Ch.nil) := fun e => by
    unfold Ch.tellsP Ch.tellsL
    rw [e]
    exact ⟨rfl, rfl⟩
  have HRT : Hid (Ch.right (zs.getD 5 0) = decide (zs.getD 5 0 ≤ 7)) := decide_eq_decide.2 ⟨fun e => e.2, fun e => ⟨hb5.1, e⟩⟩
  obtain ⟨W, hW⟩ : ∃ W, W = w.alloc (.cells #[Value.int .i64 0, Value.int .u8 0, Value.int .u8 0, Value.int .u8 0, Value.int .u8 0, Value.int .u8 0, Value.int .u8 0, Value.int .u8 0, Value.int .u8 0, Value.int .u8 0, Value.int .u8 0, Value.int .u8 0, Value.int .u8 0, Value.int .u8 0, Value.int .u8 0, Value.int .u8 0, Value.int .u8 0, Value.int .u8 0, Value.int .u8 0, Value.int .u8 0, Value.int .u8 0, Value.int .u8 0, Value.int .u8 0, Value.int .u8 0, Value.int .u8 0, Value.int .u8 0, Value.int .u8 0, Value.int .u8 0, Value.int .u8 0, Value.int .u8 0, Value.int .u8 0, Value.int .u8 0, Value.int .u8 0, Value.int .u8 0, Value.int .u8 0, Value.int .u8 0, Value.int .u8 0, Value.int .u8 0, Value.int .u8 0, Value.int .u8 0, Value.int .u8 0, Value.int .u8 0, Value.int .u8 0, Value.int .u8 0, Value.int .u8 0, Value.int .u8 0, Value.int .u8 0, Value.int .u8 0, Value.int .u8 0] 24) := ⟨_, rfl⟩
  have hb0 : Below w.heap.size w W := by rw [hW]; exact (Below.refl _ _).alloc (Nat.le_refl _) _
  have hg0 : W.heap[w.heap.size]? = some (.cells (chartC 0 Ch.nil) 24 (0, 0)) := by rw [hW]; exact heap_alloc_new w _
  have HO := hide (bopen_yes (hA.below hb0) hl hB)
  rw [h4] at HO
  have HB0 := hide hb0
  have HG0 := hide hg0
  have HSB := hide (Nums.bytes_drop hz 8)
  have HSN : Hid ((zs.drop 8).length = 56) := by show _ = _; have := (of_decide_eq_true hB).1; simp; omega
  have hFl : ((zs.drop 8).take 48).length = 48 := by have := HSN.out; simp at this ⊢; omega
  have HSF := hide (fun t => chart_size t hFl)
  have HSZ : Hid (∀ t, (chartC 0 Ch.nil).size = (chartC t ((zs.drop 8).take 48)).size) := fun t => by rw [chartC_size, chartC_size, hFl]; rfl
  clear hA hb0 hg0 hB h4 hz hV hFl
  generalize zs.getD 5 0 = t at *
  generalize zs.drop 8 = S at *
  go_enter Try.func10, Try.ntmps10
  go_wp2_with fail
  rw [← hW]
  clear hW
  refine HO.out.mono ?_
  rintro e w1 ⟨a1, c1, rfl, hA1, hb1⟩
  have HG1 := hide ((hb1.block _ ((Array.getElem?_eq_some_iff.1 HG0.out).1)).trans HG0.out)
  have HB1 := hide (HB0.out.trans (hb1.mono HB0.out.size))
  have hlt1 : w.heap.size < w1.heap.size := (Array.getElem?_eq_some_iff.1 HG1.out).1
  have HA1 := hide hA1
  obtain ⟨X, hX⟩ : ∃ X, X = (w1.alloc (.cells #[Value.int .i64 0, Value.int .u8 0, Value.int .u8 0, Value.int .u8 0, Value.int .u8 0, Value.int .u8 0, Value.int .u8 0, Value.int .u8 0, Value.int .u8 0, Value.int .u8 0, Value.int .u8 0, Value.int .u8 0, Value.int .u8 0, Value.int .u8 0, Value.int .u8 0, Value.int .u8 0, Value.int .u8 0, Value.int .u8 0, Value.int .u8 0, Value.int .u8 0, Value.int .u8 0, Value.int .u8 0, Value.int .u8 0, Value.int .u8 0, Value.int .u8 0, Value.int .u8 0, Value.int .u8 0, Value.int .u8 0, Value.int .u8 0, Value.int .u8 0, Value.int .u8 0, Value.int .u8 0, Value.int .u8 0, Value.int .u8 0, Value.int .u8 0, Value.int .u8 0, Value.int .u8 0, Value.int .u8 0, Value.int .u8 0, Value.int .u8 0, Value.int .u8 0, Value.int .u8 0, Value.int .u8 0, Value.int .u8 0, Value.int .u8 0, Value.int .u8 0, Value.int .u8 0, Value.int .u8 0, Value.int .u8 0] 24)).setRow w1.heap.size (chartC t Ch.nil) := ⟨_, rfl⟩
  have hbX : Below w1.heap.size w1 X := by rw [hX]; exact below_setRow ((Below.refl _ _).alloc (Nat.le_refl _) _) (Nat.le_refl _) _
  have hX0 : X.heap[w1.heap.size]? = some (.cells (chartC t Ch.nil) 24 (0, 0)) := by rw [hX]; exact setRow_heap _ _ _ _ _ _ (heap_alloc_new w1 _)
  have HGX := hide ((hbX.block _ hlt1).trans HG1.out)
  have HBX := hide (HB1.out.trans (hbX.mono HB1.out.size))
  have hAX := hA1.below hbX
  obtain ⟨F, hF⟩ : ∃ F, S.take 48 = F := ⟨_, rfl⟩
  have hcp := copy_chart (cap := c1) hX0 hAX.2.2.1
  rw [hF] at hcp HSF HSZ HTP
  obtain ⟨Y, hY⟩ : ∃ Y, X.setRow w1.heap.size (chartC t F) = Y := ⟨_, rfl⟩
  have hbY : Below w1.heap.size X Y := by rw [← hY]; exact below_setRow (Below.refl _ _) (Nat.le_refl _) _
  have HY0 : Hid (Y.heap[w1.heap.size]? = some (.cells (chartC t F) 24 (0, 0))) := by show _ = _; rw [← hY]; exact setRow_heap _ _ _ _ _ _ hX0
  have HGY := hide ((hbY.block _ hlt1).trans HGX.out)
  have HBY := hide (HBX.out.trans (hbY.mono (Nat.le_of_lt hlt1)))
  have HAY := hide (hA1.below (hbX.trans hbY))
  have hltY : w1.heap.size < Y.heap.size := (Array.getElem?_eq_some_iff.1 HY0.out).1
  rw [hY] at hcp
  clear hb1 hbX hX0 hAX hbY hY hF hA1
  have HRX := hide (pchright_any t F Y)
  rw [HRT.out] at HRX
  have HRB := hide (Nums.bytes_drop HSB.out 48)
  have HRL : Hid ((S.drop 48).length = 8) := by show _ = _; have := HSN.out; simp; omega
  go_wp2_with (first | (refine wpList_store_row rfl 24 _ _ rfl w1.heap.size (chartC t Ch.nil) rfl rfl 24 _ (heap_alloc_new w1 _) (chart_size t rfl) rfl (chartC_one _ _) ?_; rw [← hX]; clear hX) | (refine wpList_load_row_on (by rfl) 24 _ rfl w1.heap.size rfl 24 _ (0, 0) _ HY0.out Try.underlying24 rfl (HSF.out t) ?_))
  obtain ⟨U9, hU9⟩ : ∃ U : Value, U = .agg #[Value.int .i64 t, Value.int .u8 0, Value.int .u8 0, Value.int .u8 0, Value.int .u8 0, Value.int .u8 0, Value.int .u8 0, Value.int .u8 0, Value.int .u8 0, Value.int .u8 0, Value.int .u8 0, Value.int .u8 0, Value.int .u8 0, Value.int .u8 0, Value.int .u8 0, Value.int .u8 0, Value.int .u8 0, Value.int .u8 0, Value.int .u8 0, Value.int .u8 0, Value.int .u8 0, Value.int .u8 0, Value.int .u8 0, Value.int .u8 0, Value.int .u8 0, Value.int .u8 0, Value.int .u8 0, Value.int .u8 0, Value.int .u8 0, Value.int .u8 0, Value.int .u8 0, Value.int .u8 0, Value.int .u8 0, Value.int .u8 0, Value.int .u8 0, Value.int .u8 0, Value.int .u8 0, Value.int .u8 0, Value.int .u8 0, Value.int .u8 0, Value.int .u8 0, Value.int .u8 0, Value.int .u8 0, Value.int .u8 0, Value.int .u8 0, Value.int .u8 0, Value.int .u8 0, Value.int .u8 0, Value.int .u8 0] := ⟨_, rfl⟩
  rw [← hU9]
  clear hU9 hcp
  by_cases h7 : t ≤ 7
  · rw [decide_eq_true h7] at HRX HGG
    rw [Bool.true_and] at HGG
    refine HRX.out.mono ?_
    rintro e w5 ⟨rfl, hb5⟩
    have HG5 := hide ((hb5.block _ (Nat.lt_trans hlt1 hltY)).trans HGY.out)
    have HC5 := hide ((hb5.block _ hltY).trans HY0.out)
    have HB5 := hide (HBY.out.trans (hb5.mono HBY.out.size))
    have hR5 := HAY.out.below hb5
    have HN := hide (noughts_yes a1 56 c1 48 8 S w5 (by unfold maxLen; decide) hR5.1 hR5.2.2.1 HSB.out (by decide))
    rw [List.take_of_length_le (by rw [HRL.out]; exact Nat.le_refl _), show ((48 : Nat) : Int) = 48 from rfl, show ((8 : Nat) : Int) = 8 from rfl] at HN
    clear hb5 hR5
    cases hy : zeroB (S.drop 48) with
    | true =>
      rw [hy] at HN HGG
      obtain ⟨e1, e2⟩ := HTP.out HGG.out
      have HV : Hid (V = .tuple #[.agg (chartC t F), .bool true]) := by
        show V = _
        rw [HV0.out, HGG.out, e1, e2]
      clear hy e1 e2 h7
      go_wp2_with fail
      refine HN.out.mono ?_
      rintro e w6 ⟨rfl, hw6⟩
      obtain rfl := hw6.symm
      go_wp2_with (first | (refine wpList_load_row_on (by rfl) 24 _ rfl w1.heap.size rfl 24 _ (0, 0) _ HC5.out Try.underlying24 rfl (HSF.out t) ?_) | (refine wpList_store_row rfl 24 _ _ rfl w.heap.size (chartC t F) rfl rfl 24 (chartC 0 Ch.nil) HG5.out (HSF.out t) (HSZ.out t) (chartC_one _ _) ?_))
      (try simp only [Exit.inBlock, Exit.then]); refine bodyPost_ret (results_row rfl Try.underlying24 _ _ w.heap.size (chartC t F) rfl (setRow_heap _ _ _ _ _ _ HG5.out) (HSF.out t)) rfl ?_
      exact ⟨by rw [HV.out]; rfl, below_setRow HB5.out (Nat.le_refl _) _⟩
    | false =>
      rw [hy] at HN HGG
      obtain ⟨e1, e2⟩ := HTN.out HGG.out
      have HV : Hid (V = .tuple #[.agg (chartC 0 Ch.nil), .bool false]) := by
        show V = _
        rw [HV0.out, HGG.out, e1, e2]
      clear hy e1 e2 h7
      go_wp2_with fail
      refine HN.out.mono ?_
      rintro e w6 ⟨rfl, hw6⟩
      obtain rfl := hw6.symm
      go_wp2_with (refine wpList_store_row rfl 24 _ _ rfl w.heap.size (chartC 0 Ch.nil) rfl rfl 24 (chartC 0 Ch.nil) HG5.out info_chart rfl (chartC_one _ _) ?_)
      (try simp only [Exit.inBlock, Exit.then]); refine bodyPost_ret (results_row rfl Try.underlying24 _ _ w.heap.size (chartC 0 Ch.nil) rfl (setRow_heap _ _ _ _ _ _ HG5.out) info_chart) rfl ?_
      exact ⟨by rw [HV.out]; rfl, below_setRow HB5.out (Nat.le_refl _) _⟩
  · rw [decide_eq_false h7] at HRX HGG
    rw [Bool.false_and] at HGG
    obtain ⟨e1, e2⟩ := HTN.out HGG.out
    have HV : Hid (V = .tuple #[.agg (chartC 0 Ch.nil), .bool false]) := by
      show V = _
      rw [HV0.out, HGG.out, e1, e2]
    clear e1 e2 h7
    refine HRX.out.mono ?_
    rintro e w5 ⟨rfl, hb5⟩
    have HG9 := hide ((hb5.block _ (Nat.lt_trans hlt1 hltY)).trans HGY.out)
    have HB9 := hide (HBY.out.trans (hb5.mono HBY.out.size))
    clear hb5
    go_wp2_with (refine wpList_store_row rfl 24 _ _ rfl w.heap.size (chartC 0 Ch.nil) rfl rfl 24 (chartC 0 Ch.nil) HG9.out info_chart rfl (chartC_one _ _) ?_)
    (try simp only [Exit.inBlock, Exit.then]); refine bodyPost_ret (results_row rfl Try.underlying24 _ _ w.heap.size (chartC 0 Ch.nil) rfl (setRow_heap _ _ _ _ _ _ HG9.out) info_chart) rfl ?_
    exact ⟨by rw [HV.out]; rfl, below_setRow HB9.out (Nat.le_refl _) _⟩

theorem cget_any {w : World} {a : Option Addr} {len cap : Nat} {zs : List Int} (hA : Arg .u8 w a len cap zs) (hl : len ≤ 1000) :
    Calls Try.prog 10 #[.slice a len cap] w fun e w' => e = .returned (.tuple #[.agg (chartC (Ch.tellsP zs) (Ch.tellsL zs)), .bool (Ch.got zs)]) ∧ Below w.heap.size w w' := by
  by_cases h : Bk.isB zs = true ∧ zs.getD 4 0 = 4
  · exact cget_chart hA hl h.1 h.2
  · exact cget_other hA hl h
end Go.Proofs.Ytilnimdliebfnaa
