/-
  The document's answers (layer 13): Right of any superblock; Put, of a right one.
-/
import Derived.Test.YtmildaofmgeceaaRefSpB
import Derived.Test.YtmildaofmgeceaaRefBkA
namespace Go.Proofs.Ytmildaofmgeceaa
set_option linter.unusedVariables false
set_option linter.unusedSimpArgs false
open Go.RowKit

theorem rspright_any {w : World} (s : Sp.S) (a : Option Addr) (len cap : Nat) (hA : Arg .i64 w a len cap s.charts) :
    Calls Try.prog 9 #[.agg (superC s a len cap)] w fun e w' => e = .returned (.bool (Sp.right s)) ∧ Below w.heap.size w w' := by
  by_cases hh : Sp.headB s = true
  · by_cases hm : Sp.midB s = true
    · exact rspright_main s a len cap hA hh hm
    · rw [Bool.not_eq_true] at hm
      have e : Sp.right s = false := by unfold Sp.right; rw [hm]; simp
      rw [e]
      exact rspright_mid s w a len cap hh hA.2.2.1.1 hm
  · rw [Bool.not_eq_true] at hh
    have e : Sp.right s = false := by unfold Sp.right; rw [hh]; simp
    rw [e]
    exact rspright_head s w a len cap hh

set_option maxRecDepth 100000 in
set_option maxHeartbeats 4000000 in
theorem rspput_any {w : World} (s : Sp.S) (a : Option Addr) (len cap : Nat) (hA : Arg .i64 w a len cap s.charts) (hr : Sp.right s = true) :
    Calls Try.prog 12 #[.agg (superC s a len cap)] w fun e w' => e = .returned (.string (strOfNums (Sp.block s))) ∧ Below w.heap.size w w' := by
  obtain ⟨X1, hX1⟩ : ∃ X, X = w.alloc (.cells (superC s a len cap) 28) := ⟨_, rfl⟩
  have hBX : Below w.heap.size w X1 := by rw [hX1]; exact (Below.refl _ _).alloc (Nat.le_refl _) _
  have hgN : X1.heap[w.heap.size]? = some (.cells (superC s a len cap) 28 (0, 0)) := by rw [hX1]; exact heap_alloc_new w _
  have hlt0 : w.heap.size < X1.heap.size := (Array.getElem?_eq_some_iff.1 hgN).1
  have hzl : s.charts.length = len := hA.2.2.1.1
  have hbn := Sp.right_bounds hr
  have HSL := hide (fun W => rseal_any 7 len (Sp.body s) W (by decide) (by rw [← hzl]; exact Sp.tag_byte hr) (Sp.body_bytes s) (Sp.body_short hr))
  have HBD : Hid (Sp.block s = Bk.shut 7 len (Sp.body s)) := by show _ = _; unfold Sp.block; rw [hzl]
  rw [HBD.out]
  obtain ⟨ep, bl, sl, ge, tp, hi, fr, di, cs⟩ := s
  unfold Sp.body at HSL ⊢
  dsimp only at hbn HSL hzl ⊢
  obtain ⟨h1, h2, h3, h4, h5, h6, h7, h8, h9, hkk⟩ := hbn
  have HE1 := hide (fun W => reflay_any ep 8 W (by omega) (by omega) (by decide))
  have HE2 := hide (fun W => reflay_any bl 4 W (by omega) (by omega) (by decide))
  have HE3 := hide (fun W => reflay_any sl 4 W (by omega) (by omega) (by decide))
  have HE4 := hide (fun W => reflay_any ge 4 W (by omega) (by omega) (by decide))
  have HE5 := hide (fun W => reflay_any hi 4 W (by omega) (by omega) (by decide))
  have HE6 := hide (fun W => reflay_any fr 4 W (by omega) (by omega) (by decide))
  have HE7 := hide (fun W => reflay_any tp 2 W (by omega) (by omega) (by decide))
  have HE8 := hide (fun W => reflay_any di 2 W (by omega) (by omega) (by decide))
  have u1 : IntKind.u64.wrap ep = ep := by rw [IntKind.wrap_u64]; omega
  have u2 : IntKind.u64.wrap bl = bl := by rw [IntKind.wrap_u64]; omega
  have u3 : IntKind.u64.wrap sl = sl := by rw [IntKind.wrap_u64]; omega
  have u4 : IntKind.u64.wrap ge = ge := by rw [IntKind.wrap_u64]; omega
  have u5 : IntKind.u64.wrap hi = hi := by rw [IntKind.wrap_u64]; omega
  have u6 : IntKind.u64.wrap fr = fr := by rw [IntKind.wrap_u64]; omega
  have u7 : IntKind.u64.wrap tp = tp := by rw [IntKind.wrap_u64]; omega
  have u8 : IntKind.u64.wrap di = di := by rw [IntKind.wrap_u64]; omega
  have HCS : Hid (∀ X : World, Below X1.heap.size X1 X → X.cell? ⟨w.heap.size, 0, none⟩ = some (.int .i64 ep) ∧ X.cell? ⟨w.heap.size, 1, none⟩ = some (.int .i64 bl) ∧ X.cell? ⟨w.heap.size, 2, none⟩ = some (.int .i64 sl) ∧ X.cell? ⟨w.heap.size, 3, none⟩ = some (.int .i64 ge) ∧ X.cell? ⟨w.heap.size, 4, none⟩ = some (.int .i64 tp) ∧ X.cell? ⟨w.heap.size, 5, none⟩ = some (.int .i64 hi) ∧ X.cell? ⟨w.heap.size, 6, none⟩ = some (.int .i64 fr) ∧ X.cell? ⟨w.heap.size, 7, none⟩ = some (.int .i64 di) ∧ X.cell? ⟨w.heap.size, 8, none⟩ = some (.slice a len cap)) := fun X hX => super_cells ((hX.block _ hlt0).trans hgN)
  have c0 : ∀ x : Later X1, x.val.cell? ⟨w.heap.size, 0, none⟩ = some (.int .i64 ep) := fun x => (HCS.out _ x.property).1
  have c1 : ∀ x : Later X1, x.val.cell? ⟨w.heap.size, 1, none⟩ = some (.int .i64 bl) := fun x => (HCS.out _ x.property).2.1
  have c2 : ∀ x : Later X1, x.val.cell? ⟨w.heap.size, 2, none⟩ = some (.int .i64 sl) := fun x => (HCS.out _ x.property).2.2.1
  have c3 : ∀ x : Later X1, x.val.cell? ⟨w.heap.size, 3, none⟩ = some (.int .i64 ge) := fun x => (HCS.out _ x.property).2.2.2.1
  have c5 : ∀ x : Later X1, x.val.cell? ⟨w.heap.size, 5, none⟩ = some (.int .i64 hi) := fun x => (HCS.out _ x.property).2.2.2.2.2.1
  have c6 : ∀ x : Later X1, x.val.cell? ⟨w.heap.size, 6, none⟩ = some (.int .i64 fr) := fun x => (HCS.out _ x.property).2.2.2.2.2.2.1
  have hne := later_some X1
  have l1 : (Nums.lay ep 8).length = 8 := Nums.length_lay 8 _
  have l2 : (Nums.lay bl 4).length = 4 := Nums.length_lay 4 _
  have l3 : (Nums.lay sl 4).length = 4 := Nums.length_lay 4 _
  have l4 : (Nums.lay ge 4).length = 4 := Nums.length_lay 4 _
  have l5 : (Nums.lay hi 4).length = 4 := Nums.length_lay 4 _
  have l6 : (Nums.lay fr 4).length = 4 := Nums.length_lay 4 _
  have l7 : (Nums.lay tp 2).length = 2 := Nums.length_lay 2 _
  have l8 : (Nums.lay di 2).length = 2 := Nums.length_lay 2 _
  have HKK := hide hkk
  have HR := hide hA.2.2.1
  have HBX := hide hBX
  have HLL := hide hzl
  clear hkk hA hBX hgN hr HBD h1 h2 h3 h4 h5 h6 h7 h8
  generalize Nums.lay ep 8 = L1 at *
  generalize Nums.lay bl 4 = L2 at *
  generalize Nums.lay sl 4 = L3 at *
  generalize Nums.lay ge 4 = L4 at *
  generalize Nums.lay hi 4 = L5 at *
  generalize Nums.lay fr 4 = L6 at *
  generalize Nums.lay tp 2 = L7 at *
  generalize Nums.lay di 2 = L8 at *
  obtain ⟨M2, hM2⟩ : ∃ M, L1 ++ L2 = M := ⟨_, rfl⟩
  obtain ⟨M3, hM3⟩ : ∃ M, M2 ++ L3 = M := ⟨_, rfl⟩
  obtain ⟨M4, hM4⟩ : ∃ M, M3 ++ L4 = M := ⟨_, rfl⟩
  obtain ⟨M5, hM5⟩ : ∃ M, M4 ++ L5 = M := ⟨_, rfl⟩
  obtain ⟨M6, hM6⟩ : ∃ M, M5 ++ L6 = M := ⟨_, rfl⟩
  obtain ⟨M7, hM7⟩ : ∃ M, M6 ++ L7 = M := ⟨_, rfl⟩
  obtain ⟨pre, hpre⟩ : ∃ M, M7 ++ L8 = M := ⟨_, rfl⟩
  rw [hM2, hM3, hM4, hM5, hM6, hM7, hpre] at HSL ⊢
  have n2 : M2.length = 12 := by rw [← hM2, List.length_append]; omega
  have n3 : M3.length = 16 := by rw [← hM3, List.length_append]; omega
  have n4 : M4.length = 20 := by rw [← hM4, List.length_append]; omega
  have n5 : M5.length = 24 := by rw [← hM5, List.length_append]; omega
  have n6 : M6.length = 28 := by rw [← hM6, List.length_append]; omega
  have n7 : M7.length = 30 := by rw [← hM7, List.length_append]; omega
  have n8 : pre.length = 32 := by rw [← hpre, List.length_append]; omega
  have e2 : strOfNums L1 ++ strOfNums L2 = strOfNums M2 := by rw [str_append, hM2]
  have e3 : strOfNums M2 ++ strOfNums L3 = strOfNums M3 := by rw [str_append, hM3]
  have e4 : strOfNums M3 ++ strOfNums L4 = strOfNums M4 := by rw [str_append, hM4]
  have e5 : strOfNums M4 ++ strOfNums L5 = strOfNums M5 := by rw [str_append, hM5]
  have e6 : strOfNums M5 ++ strOfNums L6 = strOfNums M6 := by rw [str_append, hM6]
  have e7 : strOfNums M6 ++ strOfNums L7 = strOfNums M7 := by rw [str_append, hM7]
  have e8 : strOfNums M7 ++ strOfNums L8 = strOfNums pre := by rw [str_append, hpre]
  have q2 : ¬ 9223372036854775807 < (strOfNums L1).size + (strOfNums L2).size := by rw [size_str, size_str]; omega
  have q3 : ¬ 9223372036854775807 < (strOfNums M2).size + (strOfNums L3).size := by rw [size_str, size_str]; omega
  have q4 : ¬ 9223372036854775807 < (strOfNums M3).size + (strOfNums L4).size := by rw [size_str, size_str]; omega
  have q5 : ¬ 9223372036854775807 < (strOfNums M4).size + (strOfNums L5).size := by rw [size_str, size_str]; omega
  have q6 : ¬ 9223372036854775807 < (strOfNums M5).size + (strOfNums L6).size := by rw [size_str, size_str]; omega
  have q7 : ¬ 9223372036854775807 < (strOfNums M6).size + (strOfNums L7).size := by rw [size_str, size_str]; omega
  have q8 : ¬ 9223372036854775807 < (strOfNums M7).size + (strOfNums L8).size := by rw [size_str, size_str]; omega
  have HSZ : Hid (∀ j, j ≤ len → (strOfNums (pre ++ Nd.kidsB (cs.take j))).size = 32 + 2 * j) := fun j hj => by
    have hlen := HLL.out
    rw [size_str]
    simp only [List.length_append, n8, Nd.kidsB_length, List.length_take]
    omega
  have HSN : Hid (∀ j, j < len → strOfNums (pre ++ Nd.kidsB (cs.take j)) ++ strOfNums (Nums.lay (cs.getD j 0) 2) = strOfNums (pre ++ Nd.kidsB (cs.take (j + 1)))) := fun j hj => by
    have hlen := HLL.out
    rw [str_append, List.take_succ_eq_append_getElem (by omega), Nd.kidsB_snoc, List.getD_eq_getElem?_getD, List.getElem?_eq_getElem (by omega)]
    simp
  have HALL : Hid (Nd.kidsB (cs.take len) = Nd.kidsB cs) := by have hlen := HLL.out; show _ = _; rw [List.take_of_length_le (by omega)]
  have HE : Hid (strOfNums pre = strOfNums (pre ++ Nd.kidsB (cs.take 0))) := by show _ = _; simp [Nd.kidsB]
  clear hM2 hM3 hM4 hM5 hM6 hM7 hpre n2 n3 n4 n5 n6 n7 n8 l1 l2 l3 l4 l5 l6 l7 l8
  generalize strOfNums L1 = A1 at *
  generalize strOfNums L2 = A2 at *
  generalize strOfNums L3 = A3 at *
  generalize strOfNums L4 = A4 at *
  generalize strOfNums L5 = A5 at *
  generalize strOfNums L6 = A6 at *
  generalize strOfNums L7 = A7 at *
  generalize strOfNums L8 = A8 at *
  generalize strOfNums M2 = B2 at *
  generalize strOfNums M3 = B3 at *
  generalize strOfNums M4 = B4 at *
  generalize strOfNums M5 = B5 at *
  generalize strOfNums M6 = B6 at *
  generalize strOfNums M7 = B7 at *
  obtain ⟨P0, hP0⟩ : ∃ A, strOfNums pre = A := ⟨_, rfl⟩
  rw [hP0] at e8 HE
  clear hP0
  go_enter Try.func12, Try.ntmps12
  go_wp2_with fail
  rw [← hX1]
  clear hX1
  refine wp_region_later (by kernel_rfl) (by kernel_rfl) ?_
  repeat (go_big_quiet_step (first | rfl | (go_at_call_of 32 (Value.int .u64 ep); refine calls_later (HE1.out _)) | (go_at_call_of 32 (Value.int .u64 bl); refine calls_later (HE2.out _)) | (go_at_call_of 32 (Value.int .u64 sl); refine calls_later (HE3.out _)) | (go_at_call_of 32 (Value.int .u64 ge); refine calls_later (HE4.out _)) | (go_at_call_of 32 (Value.int .u64 hi); refine calls_later (HE5.out _)) | (go_at_call_of 32 (Value.int .u64 fr); refine calls_later (HE6.out _))))
  refine wpQuiet_nil ?_
  intro w2 hw2
  obtain ⟨⟨w2', hb2⟩, rfl⟩ := hw2
  have HB2 := hide hb2
  clear c0 c1 c2 c3 c5 c6 hne hb2 e2 e3 e4 e5 e6 q2 q3 q4 q5 q6 u1 u2 u3 u4 u5 u6
  have k4 : ∀ x : Later w2, x.val.cell? ⟨w.heap.size, 4, none⟩ = some (.int .i64 tp) := fun x => (HCS.out _ (HB2.out.trans (x.property.mono HB2.out.size))).2.2.2.2.1
  have k7 : ∀ x : Later w2, x.val.cell? ⟨w.heap.size, 7, none⟩ = some (.int .i64 di) := fun x => (HCS.out _ (HB2.out.trans (x.property.mono HB2.out.size))).2.2.2.2.2.2.2.1
  have hne := later_some w2
  go_wp2_with fail
  refine wp_region_later (by kernel_rfl) (by kernel_rfl) ?_
  repeat (go_big_quiet_step (first | rfl | (go_at_call_of 32 (Value.int .u64 tp); refine calls_later (HE7.out _)) | (go_at_call_of 32 (Value.int .u64 di); refine calls_later (HE8.out _))))
  refine wpQuiet_nil ?_
  intro w3 hw3
  obtain ⟨⟨w3', hb3⟩, rfl⟩ := hw3
  have HB3 := hide (HB2.out.trans (hb3.mono HB2.out.size))
  clear k4 k7 hne hb3 e7 e8 q7 q8 u7 u8
  go_wp2_with fail
  go_loopw [3, 4] (fun t i wr => ∃ j : Nat, j ≤ len ∧ i = .int .i64 j ∧ t = .string (strOfNums (pre ++ Nd.kidsB (cs.take j))) ∧ Below X1.heap.size X1 wr) (fun _ i _ => len - (intOf i).toNat)
  case atStart => exact ⟨0, Nat.zero_le _, rfl, congrArg Value.string HE.out, HB3.out⟩
  case round =>
    obtain ⟨j, hj, rfl, rfl, hb⟩ := hrel
    have HB := hide hb
    obtain ⟨_, _, _, _, _, _, _, _, k8⟩ := HCS.out wr hb
    have hsz := HSZ.out j hj
    have HSN' := hide (HSN.out j)
    by_cases hlt : j < len
    · have hjI : (j : Int) < (len : Int) := by omega
      have hzk := HKK.out (cs.getD j 0) (by
        have := HLL.out
        rw [List.getD_eq_getElem?_getD, List.getElem?_eq_getElem (by omega)]
        exact List.getElem_mem _)
      obtain ⟨hL, h0 | ⟨b, off, rfl, hbw, hc⟩⟩ := (HR.out.below HBX.out).below hb
      · omega
      have hck := hc j hlt
      clear hc hbw hb
      have HN := hide (HSN'.out hlt)
      have hz2 := size_str (Nums.lay (cs.getD j 0) 2)
      rw [Nums.length_lay] at hz2
      generalize cs.getD j 0 = z at *
      have hzw : IntKind.u64.wrap z = z := by rw [IntKind.wrap_u64]; omega
      have HL := hide (reflay_any z 2 wr (by omega) (by omega) (by decide))
      generalize strOfNums (pre ++ Nd.kidsB (cs.take j)) = T at *
      generalize strOfNums (Nums.lay z 2) = Z at *
      have hzq : ¬ 9223372036854775807 < T.size + Z.size := by omega
      go_wp2_with fail
      refine HL.out.mono ?_
      rintro e w5 ⟨rfl, hb5⟩
      have HB5 := hide (HB.out.trans (hb5.mono HB.out.size))
      clear hb5
      go_wp2_with fail
      go_roundw
      case rel => exact ⟨j + 1, by omega, by go_num, by rw [← HN.out], HB5.out⟩
      case measure => simp [intOf]; omega
    · have hjI : ¬ (j : Int) < (len : Int) := by omega
      obtain rfl : j = len := by omega
      rw [HALL.out]
      clear hb hsz
      have HSW := hide (HSL.out wr)
      generalize strOfNums (pre ++ Nd.kidsB cs) = T at *
      go_wp2_with fail
      refine HSW.out.mono ?_
      rintro e w5 ⟨rfl, hb5⟩
      have HB5 := hide (HBX.out.trans ((HB.out.trans (hb5.mono HB.out.size)).mono HBX.out.size))
      clear hb5
      go_wp2_with fail
      go_ret
      exact ⟨rfl, HB5.out⟩
end Go.Proofs.Ytmildaofmgeceaa
