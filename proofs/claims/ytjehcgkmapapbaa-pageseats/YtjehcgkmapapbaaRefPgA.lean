/-
  The document's answers (layer 9): Seat, Leaf, Fan.
-/
import Derived.Test.YtjehcgkmapapbaaRefNdA
import Derived.Test.YtjehcgkmapapbaaPgNums
namespace Go.Proofs.Ytjehcgkmapapbaa
set_option linter.unusedVariables false
set_option linter.unusedSimpArgs false
open Go.RowKit

set_option maxRecDepth 100000 in
set_option maxHeartbeats 1000000 in
theorem rseat_any (b : Bool) (g n : Int) (w : World) : Calls Try.prog 9 #[.agg #[.bool b, .int .i64 g, .int .i64 n]] w fun e w' => e = .returned (.bool (Pg.seatB ⟨b, g, n⟩)) ∧ Below w.heap.size w w' := by
  have HB : Hid (Below w.heap.size w (w.alloc (.cells #[.bool b, .int .i64 g, .int .i64 n] 23))) := (Below.refl _ _).alloc (Nat.le_refl _) _
  by_cases c1 : g < 0
  · have hv : Pg.seatB ⟨b, g, n⟩ = false := by
      unfold Pg.seatB
      rw [decide_eq_false (by simp only; omega), Bool.false_and]
    rw [hv]; clear hv
    go_enter Try.func9, Try.ntmps9
    go_wp2_with fail
    go_ret
    exact ⟨rfl, HB.out⟩
  · by_cases c2 : 4294967295 < g
    · have hv : Pg.seatB ⟨b, g, n⟩ = false := by
        unfold Pg.seatB
        rw [decide_eq_false (by simp only; omega), Bool.false_and]
      rw [hv]; clear hv
      go_enter Try.func9, Try.ntmps9
      go_wp2_with fail
      go_ret
      exact ⟨rfl, HB.out⟩
    · have hv : Pg.seatB ⟨b, g, n⟩ = (if b = true then decide (0 < g ∧ 2 ≤ n ∧ n ≤ 3071) else decide (0 ≤ n ∧ n ≤ 1792 ∧ (g ≠ 0 ∨ n = 0))) := by
        unfold Pg.seatB
        rw [decide_eq_true (by simp only; omega), Bool.true_and]
      rw [hv]; clear hv
      cases b with
      | true =>
        rw [if_pos rfl]
        by_cases c3 : 0 < g
        · have hv : decide (0 < g ∧ 2 ≤ n ∧ n ≤ 3071) = Nd.kidB n := by
            unfold Nd.kidB
            exact decide_eq_decide.2 ⟨fun h => h.2, fun h => ⟨c3, h⟩⟩
          rw [hv]; clear hv
          go_enter Try.func9, Try.ntmps9
          go_wp2_with (go_at_call 22; refine (rblock_any n _).mono ?_; rintro e w' ⟨rfl, hw'⟩; obtain rfl := hw'.symm)
          go_ret
          exact ⟨rfl, HB.out⟩
        · have hv : decide (0 < g ∧ 2 ≤ n ∧ n ≤ 3071) = false := decide_eq_false fun h => c3 h.1
          rw [hv]; clear hv
          go_enter Try.func9, Try.ntmps9
          go_wp2_with fail
          go_ret
          exact ⟨rfl, HB.out⟩
      | false =>
        rw [if_neg (by decide)]
        by_cases c3 : 0 ≤ n
        · by_cases c4 : n ≤ 1792
          · by_cases c5 : g = 0
            · by_cases c6 : n = 0
              · have hv : decide (0 ≤ n ∧ n ≤ 1792 ∧ (g ≠ 0 ∨ n = 0)) = true := decide_eq_true ⟨c3, c4, .inr c6⟩
                rw [hv]; clear hv
                subst c5 c6
                go_enter Try.func9, Try.ntmps9
                go_wp2_with fail
                go_ret
                exact ⟨rfl, HB.out⟩
              · have hv : decide (0 ≤ n ∧ n ≤ 1792 ∧ (g ≠ 0 ∨ n = 0)) = false := decide_eq_false (by omega)
                rw [hv]; clear hv
                subst c5
                have hd : (n == 0) = false := by simpa using c6
                go_enter Try.func9, Try.ntmps9
                go_wp2_with fail
                go_ret
                exact ⟨rfl, HB.out⟩
            · have hv : decide (0 ≤ n ∧ n ≤ 1792 ∧ (g ≠ 0 ∨ n = 0)) = true := decide_eq_true ⟨c3, c4, .inl c5⟩
              rw [hv]; clear hv
              have hd : (g != 0) = true := by simpa using c5
              go_enter Try.func9, Try.ntmps9
              go_wp2_with fail
              go_ret
              exact ⟨rfl, HB.out⟩
          · have hv : decide (0 ≤ n ∧ n ≤ 1792 ∧ (g ≠ 0 ∨ n = 0)) = false := decide_eq_false (by omega)
            rw [hv]; clear hv
            go_enter Try.func9, Try.ntmps9
            go_wp2_with fail
            go_ret
            exact ⟨rfl, HB.out⟩
        · have hv : decide (0 ≤ n ∧ n ≤ 1792 ∧ (g ≠ 0 ∨ n = 0)) = false := decide_eq_false (by omega)
          rw [hv]; clear hv
          go_enter Try.func9, Try.ntmps9
          go_wp2_with fail
          go_ret
          exact ⟨rfl, HB.out⟩

/-- the cells of a fan. -/
theorem boxed_fan {X : World} {B : Nat} {l : List Int} {T : TypeId} (h : X.heap[B]? = some (.cells (blk .i64 l) T (0, 0))) {j : Nat} (hj : j < l.length) : X.cell? ⟨B, j, none⟩ = some (.int .i64 (l.getD j 0)) := (cell_blk h hj).1

theorem str_none : (⟨#[]⟩ : ByteArray) = strOfNums [] := rfl
set_option maxRecDepth 100000 in
set_option maxHeartbeats 1000000 in
theorem rfan_any (l : List Int) (w : World) (hl : l.length = 16) :
    Calls Try.prog 15 #[.agg (blk .i64 l)] w fun e w' => e = .returned (.tuple #[.string (if Pg.fanR l = true then strOfNums (Pg.fan l) else ⟨#[]⟩), .bool (Pg.fanR l)]) ∧ Below w.heap.size w w' := by
  obtain ⟨W, hW⟩ : ∃ W, W = w.alloc (.cells (blk .i64 l) 40) := ⟨_, rfl⟩
  have hB0 : Below w.heap.size w W := by rw [hW]; exact (Below.refl _ _).alloc (Nat.le_refl _) _
  have hg0 : W.heap[w.heap.size]? = some (.cells (blk .i64 l) 40 (0, 0)) := by rw [hW]; exact heap_alloc_new w _
  have HB0 := hide hB0
  have HG0 := hide hg0
  have hlt0 : w.heap.size < W.heap.size := (Array.getElem?_eq_some_iff.1 hg0).1
  have HSL := hide (fun W => rseal_any 3 0 (Nd.kidsB l) W (by decide) (by decide) (Nd.kidsB_bytes l) (by rw [Nd.kidsB_length]; omega))
  have HLL := hide hl
  obtain ⟨V, hV⟩ : ∃ V : Value, V = .tuple #[.string (if Pg.fanR l = true then strOfNums (Pg.fan l) else ⟨#[]⟩), .bool (Pg.fanR l)] := ⟨_, rfl⟩
  rw [← hV]
  have HV := hide hV
  clear hB0 hg0 hV
  go_enter Try.func15, Try.ntmps15
  go_wp2_with fail
  rw [← hW]
  go_loopw [4, 5] (fun t i wr => ∃ j : Nat, j ≤ 16 ∧ i = .int .i64 j ∧ t = .string (strOfNums (Nd.kidsB (l.take j))) ∧ Pg.fanR (l.take j) = true ∧ Below W.heap.size W wr) (fun _ i _ => 16 - (intOf i).toNat)
  case atStart => exact ⟨0, Nat.zero_le _, rfl, rfl, rfl, Below.refl _ _⟩
  case round =>
    obtain ⟨j, hj, rfl, rfl, hok, hb⟩ := hrel
    have HB := hide hb
    have HOK := hide hok
    have hsz : (strOfNums (Nd.kidsB (l.take j))).size = 2 * j := by
      rw [size_str, Nd.kidsB_length, List.length_take]
      have := HLL.out
      omega
    by_cases hlt : j < 16
    · have hjI : (j : Int) < 16 := by omega
      have hcj := boxed_fan ((hb.block _ hlt0).trans HG0.out) (j := j) (by have := HLL.out; omega)
      have HTK : Hid (l.take (j + 1) = l.take j ++ [l.getD j 0]) := by
        show _ = _
        rw [List.take_succ_eq_append_getElem (by have := HLL.out; omega), List.getD_eq_getElem?_getD, List.getElem?_eq_getElem (by have := HLL.out; omega)]
        rfl
      have HSN : Hid (strOfNums (Nd.kidsB (l.take j)) ++ strOfNums (Nums.lay (l.getD j 0) 2) = strOfNums (Nd.kidsB (l.take (j + 1)))) := by
        show _ = _
        rw [HTK.out, Nd.kidsB_snoc, str_append]
      have HRN : Hid ((l.getD j 0 == 0 || Nd.kidB (l.getD j 0)) = true → Pg.fanR (l.take (j + 1)) = true) := fun e => by
        rw [HTK.out]
        unfold Pg.fanR at *
        rw [List.all_append, HOK.out, List.all_cons, e]
        rfl
      have HRF : Hid ((l.getD j 0 == 0 || Nd.kidB (l.getD j 0)) = false → Pg.fanR l = false) := fun e => by
        have hl := HLL.out
        unfold Pg.fanR
        rw [List.all_eq_false]
        refine ⟨l.getD j 0, ?_, by rw [e]; decide⟩
        rw [List.getD_eq_getElem?_getD, List.getElem?_eq_getElem (by omega)]
        exact List.getElem_mem _
      have hz2 := size_str (Nums.lay (l.getD j 0) 2)
      rw [Nums.length_lay] at hz2
      clear hok hb
      generalize l.getD j 0 = z at *
      by_cases hr : (z == 0 || Nd.kidB z) = true
      · have hzb : 0 ≤ z ∧ z ≤ 3071 := by
          rcases Bool.or_eq_true_iff.1 hr with e | e
          · have : z = 0 := by simpa using e
            omega
          · have := of_decide_eq_true e
            omega
        have HRN' := hide (HRN.out hr)
        have HL := hide (reflay_any z 2 wr (by omega) (by omega) (by decide))
        have hcase : z = 0 ∨ ((z != 0) = true ∧ Nd.kidB z = true) := by
          by_cases e : z = 0
          · exact .inl e
          · refine .inr ⟨by simpa using e, ?_⟩
            rcases Bool.or_eq_true_iff.1 hr with e' | e'
            · exact absurd (by simpa using e') e
            · exact e'
        clear HRN HRF hr
        generalize strOfNums (Nd.kidsB (l.take j)) = T at *
        generalize strOfNums (Nums.lay z 2) = Z at *
        have hzq : ¬ 9223372036854775807 < T.size + Z.size := by omega
        rcases hcase with rfl | ⟨hne, hk⟩
        · go_wp2_with fail
          refine HL.out.mono ?_
          rintro e w5 ⟨rfl, hb5⟩
          have HB5 := hide (HB.out.trans (hb5.mono HB.out.size))
          clear hb5
          go_wp2_with fail
          go_roundw
          case rel => exact ⟨j + 1, by omega, by go_num, by rw [← HSN.out], HRN'.out, HB5.out⟩
          case measure => simp [intOf]; omega
        · have HK := hide (rblock_any z wr)
          rw [hk] at HK
          clear hk
          go_wp2_with fail
          refine HK.out.mono ?_
          rintro e w4 ⟨rfl, hw4⟩
          obtain rfl := hw4.symm
          go_wp2_with fail
          refine HL.out.mono ?_
          rintro e w5 ⟨rfl, hb5⟩
          have HB5 := hide (HB.out.trans (hb5.mono HB.out.size))
          clear hb5
          go_wp2_with fail
          go_roundw
          case rel => exact ⟨j + 1, by omega, by go_num, by rw [← HSN.out], HRN'.out, HB5.out⟩
          case measure => simp [intOf]; omega
      · have hr' : (z == 0 || Nd.kidB z) = false := by simpa using hr
        have HRF' := hide (HRF.out hr')
        have hne : (z != 0) = true := by
          have := (Bool.or_eq_false_iff.1 hr').1
          simpa using this
        have HK := hide (rblock_any z wr)
        rw [(Bool.or_eq_false_iff.1 hr').2] at HK
        clear HRN HRF hr hr'
        go_wp2_with fail
        refine HK.out.mono ?_
        rintro e w4 ⟨rfl, hw4⟩
        obtain rfl := hw4.symm
        have HBE := hide (HB0.out.trans (HB.out.mono HB0.out.size))
        go_wp2_with fail
        go_ret2
        exact ⟨by rw [HV.out, HRF'.out]; rfl, HBE.out⟩
    · have hjI : ¬ (j : Int) < 16 := by omega
      obtain rfl : j = 16 := by omega
      have hta : l.take 16 = l := List.take_of_length_le (by have := HLL.out; omega)
      rw [hta] at HOK ⊢
      have HS := hide (HSL.out wr)
      clear hb hok hsz hta
      generalize strOfNums (Nd.kidsB l) = T at *
      go_wp2_with fail
      refine HS.out.mono ?_
      rintro e w5 ⟨rfl, hb5⟩
      have HB5 := hide (HB0.out.trans ((HB.out.trans (hb5.mono HB.out.size)).mono HB0.out.size))
      clear hb5
      go_wp2_with fail
      go_ret2
      exact ⟨by rw [HV.out, HOK.out]; rfl, HB5.out⟩
end Go.Proofs.Ytjehcgkmapapbaa
