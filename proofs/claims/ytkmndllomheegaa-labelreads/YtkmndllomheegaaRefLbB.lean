/-
  The document's answers (layer 11): Put, of a queue.
-/
import Derived.Test.YtkmndllomheegaaRefLbA
namespace Go.Proofs.Ytkmndllomheegaa
set_option linter.unusedVariables false
set_option linter.unusedSimpArgs false
open Go.RowKit

set_option maxRecDepth 100000 in
set_option maxHeartbeats 2000000 in
theorem rlbput_any (q : Lb.Q) (w : World) (hq : Lb.wfQ q) (hr : Lb.rightQ q = true) :
    Calls Try.prog 12 #[.agg (queueC q)] w fun e w' => e = .returned (.string (strOfNums (Lb.blockQ q))) ∧ Below w.heap.size w w' := by
  obtain ⟨W, hW⟩ : ∃ W, W = w.alloc (.cells (queueC q) 25) := ⟨_, rfl⟩
  have hB0 : Below w.heap.size w W := by rw [hW]; exact (Below.refl _ _).alloc (Nat.le_refl _) _
  have hg0 : W.heap[w.heap.size]? = some (.cells (queueC q) 25 (0, 0)) := by rw [hW]; exact heap_alloc_new w _
  have HB0 := hide hB0
  have HG0 := hide hg0
  have hlt0 : w.heap.size < W.heap.size := (Array.getElem?_eq_some_iff.1 hg0).1
  obtain ⟨hrn, hc, hrt⟩ := Lb.right_parts hr
  have hns := Lb.name_short hq.1 hrn
  have hrr := Lb.right_roots hr hq.2
  have HRR := hide hrr
  have HLC := hide (fun W => reflay_any q.count 4 W hc.1 (by omega) (by decide))
  have hwc : IntKind.u64.wrap q.count = q.count := by rw [IntKind.wrap_u64]; omega
  have HSL := hide (fun W => rseal_any 5 (q.name.length : Nat) (Lb.bodyQ q) W (by decide) (Lb.tag_byte hq hr) (Lb.body_bytes hq) (Lb.body_short hq hr))
  have HBK : Hid (Bk.shut 5 (q.name.length : Nat) (Lb.bodyQ q) = Lb.blockQ q) := rfl
  have HBD : Hid (Lb.bodyQ q = (Nums.lay q.count 4 ++ Nd.kidsB q.roots) ++ q.name) := rfl
  rw [HBK.out] at HSL
  obtain ⟨c0, c1, _⟩ := boxed_queue hg0
  rw [hW] at c1
  have hsn := size_str q.name
  have HQL := hide hq.2
  clear hB0 hg0 hrt hrr hr hrn
  go_enter Try.func12, Try.ntmps12
  go_wp2_with fail
  rw [← hW]
  refine (HLC.out _).mono ?_
  rintro e w1 ⟨rfl, hb1⟩
  have HB1 := hide hb1
  clear hb1 hW c0 c1
  have hl4 : (Nums.lay q.count 4).length = 4 := Nums.length_lay 4 _
  go_wp2_with fail
  go_loopw [3, 4] (fun s i wr => ∃ j : Nat, j ≤ 12 ∧ i = .int .i64 j ∧ s = .string (strOfNums (Nums.lay q.count 4 ++ Nd.kidsB (q.roots.take j))) ∧ Below W.heap.size W wr) (fun _ i _ => 12 - (intOf i).toNat)
  case atStart => exact ⟨0, Nat.zero_le _, rfl, by simp [Nd.kidsB], HB1.out⟩
  case round =>
    obtain ⟨j, hj, rfl, rfl, hb⟩ := hrel
    have HB := hide hb
    have hg := (hb.block _ hlt0).trans HG0.out
    by_cases hlt : j < 12
    · have hjI : (j : Int) < 12 := by omega
      have hcj := (boxed_queue hg).2.2 j (by rw [HQL.out]; exact hlt)
      have hrj := HRR.out (q.roots.getD j 0) (by
        rw [List.getD_eq_getElem?_getD, List.getElem?_eq_getElem (by rw [HQL.out]; exact hlt)]
        exact List.getElem_mem _)
      have HSN : Hid (strOfNums (Nums.lay q.count 4 ++ Nd.kidsB (q.roots.take j)) ++ strOfNums (Nums.lay (q.roots.getD j 0) 2) = strOfNums (Nums.lay q.count 4 ++ Nd.kidsB (q.roots.take (j + 1)))) := by
        show _ = _
        rw [str_append, List.take_succ_eq_append_getElem (by rw [HQL.out]; exact hlt), Nd.kidsB_snoc, List.append_assoc, List.getD_eq_getElem?_getD, List.getElem?_eq_getElem (by rw [HQL.out]; exact hlt)]
        rfl
      have hz1 : (strOfNums (Nums.lay q.count 4 ++ Nd.kidsB (q.roots.take j))).size ≤ 28 := by
        rw [size_str, List.length_append, Nd.kidsB_length, List.length_take, hl4]
        omega
      have hz2 := size_str (Nums.lay (q.roots.getD j 0) 2)
      rw [Nums.length_lay] at hz2
      clear hb hg
      generalize q.roots.getD j 0 = r at *
      have hwr : IntKind.u64.wrap r = r := by rw [IntKind.wrap_u64]; omega
      have HLR := hide (fun W => reflay_any r 2 W hrj.1 (by omega) (by decide))
      rw [show ((2 : Nat) : Int) = 2 from rfl] at HLR
      generalize strOfNums (Nums.lay q.count 4 ++ Nd.kidsB (q.roots.take j)) = T at *
      generalize strOfNums (Nums.lay r 2) = Z at *
      have hzz : ¬ 9223372036854775807 < T.size + Z.size := by omega
      go_wp2_with fail
      refine (HLR.out _).mono ?_
      rintro e w5 ⟨rfl, hb5⟩
      have HB5 := hide (HB.out.trans (hb5.mono HB.out.size))
      clear hb5
      go_wp2_with fail
      go_roundw
      case rel => exact ⟨j + 1, by omega, by go_num, by rw [HSN.out], HB5.out⟩
      case measure => simp [intOf]; omega
    · have hjI : ¬ (j : Int) < 12 := by omega
      obtain rfl : j = 12 := by omega
      have hta : q.roots.take 12 = q.roots := List.take_of_length_le (by rw [HQL.out]; exact Nat.le_refl _)
      rw [hta]
      have c0 := (boxed_queue hg).1
      have HSN : Hid (strOfNums (Nums.lay q.count 4 ++ Nd.kidsB q.roots) ++ strOfNums q.name = strOfNums (Lb.bodyQ q)) := by
        show _ = _
        rw [HBD.out, str_append]
      have hz1 : (strOfNums (Nums.lay q.count 4 ++ Nd.kidsB q.roots)).size ≤ 28 := by
        rw [size_str, List.length_append, Nd.kidsB_length, HQL.out, hl4]
        decide
      have HS := hide (HSL.out wr)
      rw [← HSN.out] at HS
      clear hb hg hta
      generalize strOfNums (Nums.lay q.count 4 ++ Nd.kidsB q.roots) = T at *
      generalize strOfNums q.name = N at *
      generalize q.name.length = nl at *
      have hzz : ¬ 9223372036854775807 < T.size + N.size := by omega
      go_wp2_with fail
      refine HS.out.mono ?_
      rintro e w5 ⟨rfl, hb5⟩
      have HB5 := hide (HB0.out.trans ((HB.out.trans (hb5.mono HB.out.size)).mono HB0.out.size))
      clear hb5
      go_wp2_with fail
      go_ret
      exact ⟨rfl, HB5.out⟩
end Go.Proofs.Ytkmndllomheegaa
