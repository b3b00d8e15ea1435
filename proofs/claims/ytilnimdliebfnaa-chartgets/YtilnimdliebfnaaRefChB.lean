/-
  The document's answers (layer 10): Has, Made.
-/
import Derived.Test.YtilnimdliebfnaaRefChA
namespace Go.Proofs.Ytilnimdliebfnaa
set_option linter.unusedVariables false
set_option linter.unusedSimpArgs false
open Go.RowKit

set_option maxRecDepth 100000 in
set_option maxHeartbeats 1000000 in
theorem rchhas_any {w : World} {a : Option Addr} {len cap : Nat} {L : List Int} (hA : Arg .i64 w a len cap L) (hl : len ≤ 100000) (n : Int) :
    Calls Try.prog 19 #[.slice a len cap, .int .i64 n] w fun e w' => e = .returned (.bool (L.any fun x => decide (x = n))) ∧ w' = w := by
  have hll := hA.2.2.1.1
  have HR := hide hA.2.2.1
  clear hA
  go_enter Try.func19, Try.ntmps19
  go_wp2_with fail
  go_loop [5] (fun i => ∃ j : Nat, j ≤ len ∧ i = .int .i64 j ∧ (L.take j).any (fun x => decide (x = n)) = false) (fun i => len - (intOf i).toNat)
  case atStart => exact ⟨0, Nat.zero_le _, rfl, rfl⟩
  case round =>
    obtain ⟨j, hj, rfl, hno⟩ := hrel
    by_cases hlt : j < len
    · have hjI : (j : Int) < (len : Int) := by omega
      obtain ⟨_, h0 | ⟨b, off, rfl, hbw, hc⟩⟩ := HR.out
      · omega
      have hcj := hc j hlt
      have HT : Hid (L.take (j + 1) = L.take j ++ [L.getD j 0]) := by
        show _ = _
        rw [List.take_succ_eq_append_getElem (by omega), List.getD_eq_getElem?_getD, List.getElem?_eq_getElem (by omega)]
        rfl
      have HIN : Hid (L.getD j 0 ∈ L) := by
        show _ ∈ _
        rw [List.getD_eq_getElem?_getD, List.getElem?_eq_getElem (by omega)]
        exact List.getElem_mem _
      have HNO := hide hno
      clear hc hno
      generalize L.getD j 0 = z at *
      by_cases hz : z = n
      · have HY : Hid (L.any (fun x => decide (x = n)) = true) := List.any_eq_true.2 ⟨z, HIN.out, decide_eq_true hz⟩
        subst hz
        go_wp2_with fail
        go_ret
        exact ⟨by rw [HY.out]; rfl, rfl⟩
      · have HY : Hid ((L.take (j + 1)).any (fun x => decide (x = n)) = false) := by
          show _ = _
          rw [HT.out, List.any_append, HNO.out]
          simp [hz]
        have hzb : (z == n) = false := by simpa using hz
        go_wp2_with fail
        go_round
        case rel => exact ⟨j + 1, by omega, by go_num, HY.out⟩
        case measure => simp [intOf]; omega
    · have hjI : ¬ (j : Int) < (len : Int) := by omega
      have HY : Hid (L.any (fun x => decide (x = n)) = false) := by
        show _ = _
        rwa [List.take_of_length_le (by omega)] at hno
      clear hno
      go_wp2_with fail
      go_ret
      exact ⟨by rw [HY.out]; rfl, rfl⟩

theorem drew_heapC (W : World) : W.drew.heap = W.heap := rfl
theorem quo8 {k q : Nat} (h : k / 8 = q) (hk : k < 384) : IntKind.i64.wrap ((k : Int).tdiv 8) = (q : Int) ∧ IntKind.i64.wrap ((k : Int) / 8) = (q : Int) ∧ wrap64 ((k : Int) / 8) = (q : Int) ∧ (q : Int) < 48 := by
  have e : (k : Int).tdiv 8 = (k : Int) / 8 := Int.tdiv_eq_ediv_of_nonneg (by omega)
  have h4 : IntKind.i64.wrap ((k : Int) / 8) = (q : Int) := by rw [IntKind.wrap_i64]; omega
  exact ⟨by rw [e]; exact h4, h4, by unfold wrap64; omega, by omega⟩
theorem rem8 {k r : Nat} (h : k % 8 = r) : (k : Int).tmod 8 = (r : Int) ∧ (r : Int) ≤ 8 ∧ r < 8 := by
  rw [Int.tmod_eq_emod_of_nonneg (by omega)]
  omega
theorem shl8 {r P : Nat} (h : 2 ^ r = P) (hr : r < 8) : IntKind.u8.wrap ((2 : Int) ^ r) = (P : Int) := by
  have hp : P < 256 := by rw [← h]; exact Nat.pow_lt_pow_right (n := 8) (by decide) hr
  rw [show ((2 : Int) ^ r) = (P : Int) by rw [← h]; exact (Int.natCast_pow 2 r).symm, IntKind.wrap_u8']
  omega

set_option maxRecDepth 100000 in
set_option maxHeartbeats 2000000 in
theorem rchmade_any {w : World} {a : Option Addr} {len cap : Nat} {L : List Int} (hA : Arg .i64 w a len cap L) (hl : len ≤ 100000) (p : Int) (hp : Ch.right p = true) :
    Calls Try.prog 21 #[.int .i64 p, .slice a len cap] w fun e w' => e = .returned (.agg (chartC p (Ch.made p L))) ∧ Below w.heap.size w w' := by
  have hp' := of_decide_eq_true hp
  have hll := hA.2.2.1.1
  have HA := hide hA
  clear hA hp
  obtain ⟨Y, hY⟩ : ∃ Y, Y = (w.alloc (.cells #[Value.int .i64 0, Value.int .u8 0, Value.int .u8 0, Value.int .u8 0, Value.int .u8 0, Value.int .u8 0, Value.int .u8 0, Value.int .u8 0, Value.int .u8 0, Value.int .u8 0, Value.int .u8 0, Value.int .u8 0, Value.int .u8 0, Value.int .u8 0, Value.int .u8 0, Value.int .u8 0, Value.int .u8 0, Value.int .u8 0, Value.int .u8 0, Value.int .u8 0, Value.int .u8 0, Value.int .u8 0, Value.int .u8 0, Value.int .u8 0, Value.int .u8 0, Value.int .u8 0, Value.int .u8 0, Value.int .u8 0, Value.int .u8 0, Value.int .u8 0, Value.int .u8 0, Value.int .u8 0, Value.int .u8 0, Value.int .u8 0, Value.int .u8 0, Value.int .u8 0, Value.int .u8 0, Value.int .u8 0, Value.int .u8 0, Value.int .u8 0, Value.int .u8 0, Value.int .u8 0, Value.int .u8 0, Value.int .u8 0, Value.int .u8 0, Value.int .u8 0, Value.int .u8 0, Value.int .u8 0, Value.int .u8 0] 24)).alloc (.cells #[Value.int .i64 0, Value.int .u8 0, Value.int .u8 0, Value.int .u8 0, Value.int .u8 0, Value.int .u8 0, Value.int .u8 0, Value.int .u8 0, Value.int .u8 0, Value.int .u8 0, Value.int .u8 0, Value.int .u8 0, Value.int .u8 0, Value.int .u8 0, Value.int .u8 0, Value.int .u8 0, Value.int .u8 0, Value.int .u8 0, Value.int .u8 0, Value.int .u8 0, Value.int .u8 0, Value.int .u8 0, Value.int .u8 0, Value.int .u8 0, Value.int .u8 0, Value.int .u8 0, Value.int .u8 0, Value.int .u8 0, Value.int .u8 0, Value.int .u8 0, Value.int .u8 0, Value.int .u8 0, Value.int .u8 0, Value.int .u8 0, Value.int .u8 0, Value.int .u8 0, Value.int .u8 0, Value.int .u8 0, Value.int .u8 0, Value.int .u8 0, Value.int .u8 0, Value.int .u8 0, Value.int .u8 0, Value.int .u8 0, Value.int .u8 0, Value.int .u8 0, Value.int .u8 0, Value.int .u8 0, Value.int .u8 0] 24) := ⟨_, rfl⟩
  have hy1 : Y.heap[w.heap.size + 1]? = some (.cells #[Value.int .i64 0, Value.int .u8 0, Value.int .u8 0, Value.int .u8 0, Value.int .u8 0, Value.int .u8 0, Value.int .u8 0, Value.int .u8 0, Value.int .u8 0, Value.int .u8 0, Value.int .u8 0, Value.int .u8 0, Value.int .u8 0, Value.int .u8 0, Value.int .u8 0, Value.int .u8 0, Value.int .u8 0, Value.int .u8 0, Value.int .u8 0, Value.int .u8 0, Value.int .u8 0, Value.int .u8 0, Value.int .u8 0, Value.int .u8 0, Value.int .u8 0, Value.int .u8 0, Value.int .u8 0, Value.int .u8 0, Value.int .u8 0, Value.int .u8 0, Value.int .u8 0, Value.int .u8 0, Value.int .u8 0, Value.int .u8 0, Value.int .u8 0, Value.int .u8 0, Value.int .u8 0, Value.int .u8 0, Value.int .u8 0, Value.int .u8 0, Value.int .u8 0, Value.int .u8 0, Value.int .u8 0, Value.int .u8 0, Value.int .u8 0, Value.int .u8 0, Value.int .u8 0, Value.int .u8 0, Value.int .u8 0] 24 (0, 0)) := by
    rw [hY]
    have := heap_alloc_new (w.alloc (.cells #[Value.int .i64 0, Value.int .u8 0, Value.int .u8 0, Value.int .u8 0, Value.int .u8 0, Value.int .u8 0, Value.int .u8 0, Value.int .u8 0, Value.int .u8 0, Value.int .u8 0, Value.int .u8 0, Value.int .u8 0, Value.int .u8 0, Value.int .u8 0, Value.int .u8 0, Value.int .u8 0, Value.int .u8 0, Value.int .u8 0, Value.int .u8 0, Value.int .u8 0, Value.int .u8 0, Value.int .u8 0, Value.int .u8 0, Value.int .u8 0, Value.int .u8 0, Value.int .u8 0, Value.int .u8 0, Value.int .u8 0, Value.int .u8 0, Value.int .u8 0, Value.int .u8 0, Value.int .u8 0, Value.int .u8 0, Value.int .u8 0, Value.int .u8 0, Value.int .u8 0, Value.int .u8 0, Value.int .u8 0, Value.int .u8 0, Value.int .u8 0, Value.int .u8 0, Value.int .u8 0, Value.int .u8 0, Value.int .u8 0, Value.int .u8 0, Value.int .u8 0, Value.int .u8 0, Value.int .u8 0, Value.int .u8 0] 24)) (.cells #[Value.int .i64 0, Value.int .u8 0, Value.int .u8 0, Value.int .u8 0, Value.int .u8 0, Value.int .u8 0, Value.int .u8 0, Value.int .u8 0, Value.int .u8 0, Value.int .u8 0, Value.int .u8 0, Value.int .u8 0, Value.int .u8 0, Value.int .u8 0, Value.int .u8 0, Value.int .u8 0, Value.int .u8 0, Value.int .u8 0, Value.int .u8 0, Value.int .u8 0, Value.int .u8 0, Value.int .u8 0, Value.int .u8 0, Value.int .u8 0, Value.int .u8 0, Value.int .u8 0, Value.int .u8 0, Value.int .u8 0, Value.int .u8 0, Value.int .u8 0, Value.int .u8 0, Value.int .u8 0, Value.int .u8 0, Value.int .u8 0, Value.int .u8 0, Value.int .u8 0, Value.int .u8 0, Value.int .u8 0, Value.int .u8 0, Value.int .u8 0, Value.int .u8 0, Value.int .u8 0, Value.int .u8 0, Value.int .u8 0, Value.int .u8 0, Value.int .u8 0, Value.int .u8 0, Value.int .u8 0, Value.int .u8 0] 24)
    simpa using this
  have hy0 : Y.heap[w.heap.size]? = some (.cells (chartC 0 Ch.nil) 24 (0, 0)) := by
    rw [hY, Below.heap_alloc _ _ _ (by simp)]
    exact heap_alloc_new w _
  have hyb : Below w.heap.size w Y := by rw [hY]; exact ((Below.refl _ _).alloc (Nat.le_refl _) _).alloc (by simp) _
  obtain ⟨X, hX⟩ : ∃ X, X = Y.setRow (w.heap.size + 1) (chartC p Ch.nil) := ⟨_, rfl⟩
  have hb0 : Below w.heap.size w X := by rw [hX]; exact below_setRow hyb (by omega) _
  have hg0 : X.heap[w.heap.size + 1]? = some (.cells (chartC p Ch.nil) 24 (0, 0)) := by rw [hX]; exact setRow_heap _ _ _ _ _ _ hy1
  have hr0 : X.heap[w.heap.size]? = some (.cells (chartC 0 Ch.nil) 24 (0, 0)) := by rw [hX, setRow_far (by omega)]; exact hy0
  have HG0 := hide hg0
  have HR0 := hide hr0
  have HB0 := hide hb0
  rw [hY] at hy1
  have HY1 := hide hy1
  clear hg0 hb0 hr0 hy0 hyb hy1
  go_enter Try.func21, Try.ntmps21
  go_wp2_with (refine wpList_store_row rfl 24 _ _ rfl (w.heap.size + 1) (chartC p Ch.nil) rfl rfl 24 _ HY1.out (chart_size p rfl) rfl (chartC_one _ _) ?_; rw [← hY, ← hX]; clear hX hY)
  obtain ⟨U9, hU9⟩ : ∃ U : Value, U = .agg #[Value.int .i64 p, Value.int .u8 0, Value.int .u8 0, Value.int .u8 0, Value.int .u8 0, Value.int .u8 0, Value.int .u8 0, Value.int .u8 0, Value.int .u8 0, Value.int .u8 0, Value.int .u8 0, Value.int .u8 0, Value.int .u8 0, Value.int .u8 0, Value.int .u8 0, Value.int .u8 0, Value.int .u8 0, Value.int .u8 0, Value.int .u8 0, Value.int .u8 0, Value.int .u8 0, Value.int .u8 0, Value.int .u8 0, Value.int .u8 0, Value.int .u8 0, Value.int .u8 0, Value.int .u8 0, Value.int .u8 0, Value.int .u8 0, Value.int .u8 0, Value.int .u8 0, Value.int .u8 0, Value.int .u8 0, Value.int .u8 0, Value.int .u8 0, Value.int .u8 0, Value.int .u8 0, Value.int .u8 0, Value.int .u8 0, Value.int .u8 0, Value.int .u8 0, Value.int .u8 0, Value.int .u8 0, Value.int .u8 0, Value.int .u8 0, Value.int .u8 0, Value.int .u8 0, Value.int .u8 0, Value.int .u8 0] := ⟨_, rfl⟩
  rw [← hU9]
  clear hU9
  go_loopw [6] (fun i wr => ∃ j : Nat, j ≤ len ∧ i = .int .i64 j ∧ wr.heap[w.heap.size + 1]? = some (.cells (chartC p ((L.take j).foldl (Ch.step p) Ch.nil)) 24 (0, 0)) ∧ Below (w.heap.size + 1) X wr) (fun i _ => len - (intOf i).toNat)
  case atStart => exact ⟨0, Nat.zero_le _, rfl, HG0.out, Below.refl _ _⟩
  case round =>
    obtain ⟨j, hj, rfl, hgr, hbr⟩ := hrel
    have HGR := hide hgr
    have HBR := hide hbr
    by_cases hlt : j < len
    · have hjI : (j : Int) < (len : Int) := by omega
      obtain ⟨_, h0 | ⟨b, off, rfl, hbw, hc⟩⟩ := HA.out.2.2.1.below (HB0.out.trans (hbr.mono (by omega)))
      · omega
      have hcj := hc j hlt
      have hwz := HA.out.2.2.2.1 (L.getD j 0) (by
        rw [List.getD_eq_getElem?_getD, List.getElem?_eq_getElem (by omega)]
        exact List.getElem_mem _)
      have HT : Hid (L.take (j + 1) = L.take j ++ [L.getD j 0]) := by
        show _ = _
        rw [List.take_succ_eq_append_getElem (by omega), List.getD_eq_getElem?_getD, List.getElem?_eq_getElem (by omega)]
        rfl
      have HF : Hid ((L.take (j + 1)).foldl (Ch.step p) Ch.nil = Ch.step p ((L.take j).foldl (Ch.step p) Ch.nil) (L.getD j 0)) := by
        show _ = _
        rw [HT.out, List.foldl_append]
        rfl
      obtain ⟨M, hM⟩ : ∃ M, (L.take j).foldl (Ch.step p) Ch.nil = M := ⟨_, rfl⟩
      have hok := Ch.made_from p (L.take j) Ch.nil rfl Ch.nil_bytes
      rw [hM] at HF hgr hok HGR
      obtain ⟨hMl, hMb, _⟩ := hok
      obtain ⟨hz1, hz2⟩ := bd_i64 hwz
      have w1 : IntKind.i64.wrap (384 * p) = 384 * p := by rw [IntKind.wrap_i64]; omega
      have w2 : IntKind.i64.wrap (384 * p + 384) = 384 * p + 384 := by rw [IntKind.wrap_i64]; omega
      generalize L.getD j 0 = z at *
      clear hc HT hM hwz
      by_cases hin : 384 * p ≤ z ∧ z < 384 * p + 384
      · have HS : Hid (Ch.step p M z = Ch.setB M (z - 384 * p).toNat true) := if_pos hin
        obtain ⟨k, hk⟩ : ∃ k : Nat, z - 384 * p = (k : Int) := ⟨(z - 384 * p).toNat, by omega⟩
        rw [hk, Int.toNat_natCast] at HS
        have hk1 : (k : Int) < 384 := by omega
        have w3 : IntKind.i64.wrap (z - 384 * p) = (k : Int) := by rw [IntKind.wrap_i64]; omega
        obtain ⟨hi1, hi2⟩ := hin
        obtain ⟨q, hq⟩ : ∃ q : Nat, k / 8 = q := ⟨_, rfl⟩
        obtain ⟨r, hr⟩ : ∃ r : Nat, k % 8 = r := ⟨_, rfl⟩
        have hq48 : q < M.length := by omega
        have HQ8 := hide (quo8 hq (by omega))
        obtain ⟨hr1, hr2, hr3⟩ := rem8 hr
        have HR8 := hide hr1
        clear hr1
        have c0 : wr.cell? ⟨w.heap.size + 1, 1 + q, none⟩ = some (.int .u8 (M.getD q 0)) := by rw [Nat.add_comm 1 q]; exact (boxed_chart hgr).2 q hq48
        have f0 : wr.frozen? ⟨w.heap.size + 1, 1 + q, none⟩ = false := by simp [World.frozen?, hgr]
        obtain ⟨y, hy⟩ : ∃ y : Nat, M.getD q 0 = (y : Int) := ⟨(M.getD q 0).toNat, by have := Ch.byte_at hMb q; omega⟩
        have hy256 : y < 256 := by have := Ch.byte_at hMb q; omega
        have HV : Hid (Ch.setB M k true = M.set q ((y ||| 2 ^ r : Nat) : Int)) := by
          show _ = _
          unfold Ch.setB Ch.setN
          rw [hq, hr, hy, if_pos rfl, Int.toNat_natCast]
        rw [hy] at c0
        have hpr : (2 : Nat) ^ r < 256 := Nat.pow_lt_pow_right (n := 8) (by decide) hr3
        have hor : bits .or .u8 (y : Int) ((2 ^ r : Nat) : Int) = ((y ||| 2 ^ r : Nat) : Int) := u8_or_nat y (2 ^ r) hy256 hpr
        obtain ⟨P, hP⟩ : ∃ P : Nat, 2 ^ r = P := ⟨_, rfl⟩
        have HS8 := hide (shl8 hP hr3)
        rw [hP] at hor HV
        generalize y ||| P = v at *
        have HQ := hide hq48
        clear hbr hgr hk hP hpr hq hr hq48 hy hy256 hr3
        obtain ⟨hq1, hq4, hq5, hq2⟩ := HQ8.out
        have hr1 := HR8.out
        have hsh := HS8.out
        go_wp2_with fail
        go_region_with (fail)
        go_wp2_with fail
        go_roundw
        case rel =>
          refine ⟨j + 1, by omega, by go_num, ?_, (HBR.out.setCell (p := ⟨w.heap.size + 1, 1 + q, none⟩) (Nat.le_refl _) _).drew⟩
          rw [drew_heapC, heap_set HGR.out, HF.out, HS.out, HV.out, Nat.add_comm 1 q, chartC_setB]
        case measure => simp [intOf]; omega
      · have HS : Hid (Ch.step p M z = M) := if_neg hin
        clear hbr hgr
        by_cases h1 : 384 * p ≤ z
        · have h2 : ¬ z < 384 * p + 384 := fun e => hin ⟨h1, e⟩
          clear hin
          go_wp2_with fail
          go_roundw
          case rel => exact ⟨j + 1, by omega, by go_num, by rw [HF.out, HS.out]; exact HGR.out, HBR.out⟩
          case measure => simp [intOf]; omega
        · clear hin
          go_wp2_with fail
          go_roundw
          case rel => exact ⟨j + 1, by omega, by go_num, by rw [HF.out, HS.out]; exact HGR.out, HBR.out⟩
          case measure => simp [intOf]; omega
    · have hjI : ¬ (j : Int) < (len : Int) := by omega
      have hta : L.take j = L := List.take_of_length_le (by omega)
      rw [hta] at hgr
      have HGL : Hid (wr.heap[w.heap.size + 1]? = some (.cells (chartC p (Ch.made p L)) 24 (0, 0))) := hgr
      have HML : Hid ((Ch.made p L).length = 48) := (Ch.made_from p L Ch.nil rfl Ch.nil_bytes).1
      have HSZ : Hid ((chartC 0 Ch.nil).size = (chartC p (Ch.made p L)).size) := by show _ = _; rw [chartC_size, chartC_size, HML.out]; rfl
      have HRR := hide ((hbr.block _ (Nat.lt_succ_self _)).trans HR0.out)
      have HBE := hide (HB0.out.trans (hbr.mono (by omega)))
      clear hbr hgr hta HGR HBR
      generalize hF : Ch.made p L = F at *
      have HF' := hide hF
      clear hF
      go_wp2_with (first
        | (refine wpList_load_row_on (by rfl) 24 _ rfl (w.heap.size + 1) rfl 24 _ (0, 0) _ HGL.out Try.underlying24 rfl (chart_size p HML.out) ?_)
        | (refine wpList_store_row rfl 24 _ _ rfl w.heap.size (chartC p F) rfl rfl 24 _ HRR.out (chart_size p HML.out) HSZ.out (chartC_one _ _) ?_))
      (try simp only [Exit.inBlock, Exit.then]); refine bodyPost_ret (results_cell_row rfl _ _ w.heap.size 24 (chartC p F) (0, 0) _ rfl (setRow_heap _ _ _ _ _ _ HRR.out) Try.underlying24 rfl (chart_size p HML.out)) rfl ?_
      exact ⟨by rw [HF'.out], below_setRow HBE.out (Nat.le_refl _) _⟩
end Go.Proofs.Ytilnimdliebfnaa
