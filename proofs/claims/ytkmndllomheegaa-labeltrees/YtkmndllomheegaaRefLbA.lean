/-
  The document's answers (layer 11): Right, of a queue.
-/
import Derived.Test.YtkmndllomheegaaRefNdA
import Derived.Test.YtkmndllomheegaaLbNums
import Derived.Test.YtkmndllomheegaaNameF
import Derived.Test.YtkmndllomheegaaEqRow
namespace Go.Proofs.Ytkmndllomheegaa
set_option linter.unusedVariables false
set_option linter.unusedSimpArgs false
open Go.RowKit

/-- a queue's cells. -/
def queueC (q : Lb.Q) : Array Value := (Value.string (strOfNums q.name) :: Value.int .i64 q.count :: q.roots.map (Value.int .i64)).toArray
theorem queueC_size (q : Lb.Q) : (queueC q).size = q.roots.length + 2 := by simp [queueC]
theorem queueC_one (q : Lb.Q) : (queueC q).all (·.oneCell') = true := by
  rw [Array.all_eq_true_iff_forall_mem]
  intro v hv
  unfold queueC at hv
  rw [List.mem_toArray] at hv
  rcases List.mem_cons.1 hv with rfl | hv
  · rfl
  · rcases List.mem_cons.1 hv with rfl | hv
    · rfl
    · obtain ⟨z, _, rfl⟩ := List.mem_map.1 hv
      rfl
theorem info_queue : (Try.prog.info? 25).map (·.size) = some 14 := by kernel_rfl
theorem queue_size {q : Lb.Q} (h : Lb.wfQ q) : (Try.prog.info? 25).map (·.size) = some (queueC q).size := by rw [queueC_size, h.2]; exact info_queue
theorem boxed_queue {X : World} {B : Nat} {q : Lb.Q} {T : TypeId} (h : X.heap[B]? = some (.cells (queueC q) T (0, 0))) : X.cell? ⟨B, 0, none⟩ = some (.string (strOfNums q.name)) ∧ X.cell? ⟨B, 1, none⟩ = some (.int .i64 q.count) ∧ ∀ j, j < q.roots.length → X.cell? ⟨B, 2 + j, none⟩ = some (.int .i64 (q.roots.getD j 0)) := by
  refine ⟨by simp [World.cell?, h, queueC], by simp [World.cell?, h, queueC], fun j hj => ?_⟩
  simp only [World.cell?, h, queueC, Option.map_some]
  simp [hj, show 2 + j = j + 1 + 1 by omega]

theorem half_of {x : Nat} (h : x ≤ 4095) : IntKind.i64.wrap ((x : Int).tdiv 2) = ((x / 2 : Nat) : Int) ∧ IntKind.i64.wrap ((x : Int) / 2) = ((x / 2 : Nat) : Int) ∧ wrap64 ((x : Int) / 2) = ((x / 2 : Nat) : Int) := by
  have e : (x : Int).tdiv 2 = (x : Int) / 2 := Int.tdiv_eq_ediv_of_nonneg (by omega)
  have h4 : IntKind.i64.wrap ((x : Int) / 2) = ((x / 2 : Nat) : Int) := by rw [IntKind.wrap_i64]; omega
  exact ⟨by rw [e]; exact h4, h4, by unfold wrap64; omega⟩
theorem rem_of (x : Nat) : (x : Int).tmod 2 = ((x % 2 : Nat) : Int) := by
  rw [Int.tmod_eq_emod_of_nonneg (by omega)]
  omega

set_option maxRecDepth 100000 in
set_option maxHeartbeats 2000000 in
theorem rlbright_any (q : Lb.Q) (w : World) (hq : Lb.wfQ q) (hn : q.name.length ≤ 1000000) (hc : (Lit.int .i64 q.count).wf = true) :
    Calls Try.prog 9 #[.agg (queueC q)] w fun e w' => e = .returned (.bool (Lb.rightQ q)) ∧ Below w.heap.size w w' := by
  obtain ⟨W, hW⟩ : ∃ W, W = w.alloc (.cells (queueC q) 25) := ⟨_, rfl⟩
  have hB0 : Below w.heap.size w W := by rw [hW]; exact (Below.refl _ _).alloc (Nat.le_refl _) _
  have hg0 : W.heap[w.heap.size]? = some (.cells (queueC q) 25 (0, 0)) := by rw [hW]; exact heap_alloc_new w _
  have HB0 := hide hB0
  have HG0 := hide hg0
  have hlt0 : w.heap.size < W.heap.size := (Array.getElem?_eq_some_iff.1 hg0).1
  have HR := hide (fun W => rnmright_any q.name W hq.1 hn)
  obtain ⟨c0, c1, _⟩ := boxed_queue hg0
  rw [hW] at c0
  have HQ : Hid (Lb.rightQ q = ((rightR (runes q.name) && decide (0 ≤ q.count ∧ q.count ≤ 4095)) && Lb.rootsTo q.count.toNat q.roots 12)) := rfl
  obtain ⟨V, hV⟩ : ∃ V : Bool, V = Lb.rightQ q := ⟨_, rfl⟩
  rw [← hV]
  rw [HQ.out] at hV
  have HV := hide hV
  clear hB0 hg0 hV
  go_enter Try.func9, Try.ntmps9
  go_wp2_with fail
  rw [← hW]
  refine (HR.out _).mono ?_
  rintro e w1 ⟨rfl, hb1⟩
  have HB1 := hide hb1
  have hg1 := (hb1.block _ hlt0).trans HG0.out
  have HG1 := hide hg1
  have HBE := hide (HB0.out.trans (hb1.mono HB0.out.size))
  obtain ⟨_, k1, _⟩ := boxed_queue hg1
  have hc' := bd_i64 hc
  clear hb1 hg1 c0 c1 hW
  generalize hqc : q.count = c at *
  cases hr : rightR (runes q.name) with
  | false =>
    rw [hr] at HV
    clear hr
    go_wp2_with fail
    go_ret
    exact ⟨by rw [HV.out]; rfl, HBE.out⟩
  | true =>
    rw [hr, Bool.true_and] at HV
    clear hr
    by_cases h1 : c < 0
    · rw [decide_eq_false (by omega), Bool.false_and] at HV
      go_wp2_with fail
      go_ret
      exact ⟨by rw [HV.out]; rfl, HBE.out⟩
    by_cases h2 : 4095 < c
    · rw [decide_eq_false (by omega), Bool.false_and] at HV
      go_wp2_with fail
      go_ret
      exact ⟨by rw [HV.out]; rfl, HBE.out⟩
    rw [decide_eq_true (by omega), Bool.true_and] at HV
    obtain ⟨m, hm⟩ : ∃ m : Nat, c = m := ⟨c.toNat, by omega⟩
    subst hm
    rw [Int.toNat_natCast] at HV
    have HQL := hide hq.2
    clear hq hc hc' hqc hn
    go_wp2_with fail
    have hm4 : m ≤ 4095 := by omega
    go_loop [3, 4] (fun n i => ∃ j : Nat, j ≤ 12 ∧ i = .int .i64 j ∧ n = .int .i64 (m / 2 ^ j : Nat) ∧ Lb.rootsTo m q.roots j = true) (fun _ i => 12 - (intOf i).toNat)
    case atStart => exact ⟨0, Nat.zero_le _, rfl, by rw [Nat.pow_zero, Nat.div_one], rfl⟩
    case round =>
      obtain ⟨j, hj, rfl, rfl, hok⟩ := hrel
      by_cases hlt : j < 12
      · have hjI : (j : Int) < 12 := by omega
        have hcj := (boxed_queue HG1.out).2.2 j (by rw [HQL.out]; exact hlt)
        have HDV : Hid (m / 2 ^ (j + 1) = m / 2 ^ j / 2) := by show _ = _; rw [Nat.pow_succ, Nat.div_div_eq_div_mul]
        have HSC : Hid (Lb.rootsTo m q.roots (j + 1) = Lb.rootB m j (q.roots.getD j 0)) := by show _ = _; rw [Lb.rootsTo_succ, hok, Bool.true_and]
        have HFL : Hid (Lb.rootB m j (q.roots.getD j 0) = false → V = false) := fun e => by
          rw [HV.out]
          cases hq : Lb.rootsTo m q.roots 12 with
          | false => rfl
          | true =>
            have := Lb.rootsTo_le hq (show j + 1 ≤ 12 by omega)
            rw [HSC.out, e] at this
            exact absurd this (by decide)
        have HRB : Hid (Lb.rootB m j (q.roots.getD j 0) = if m / 2 ^ j % 2 = 1 then Nd.kidB (q.roots.getD j 0) else q.roots.getD j 0 == 0) := rfl
        obtain ⟨x, hx⟩ : ∃ x : Nat, m / 2 ^ j = x := ⟨_, rfl⟩
        have hx4 : x ≤ 4095 := by rw [← hx]; exact Nat.le_trans (Nat.div_le_self _ _) hm4
        rw [hx] at HDV HRB ⊢
        have HRT := hide (rem_of x)
        have HHF := hide (half_of hx4)
        generalize Lb.rootB m j (q.roots.getD j 0) = rb at *
        generalize q.roots.getD j 0 = r at *
        clear hx hok
        by_cases hb : x % 2 = 1
        · have hr1 : (x : Int).tmod 2 = 1 := by rw [HRT.out, hb]; rfl
          rw [if_pos hb] at HRB
          have HK := hide (rblock_any r w1)
          cases hk : Nd.kidB r with
          | true =>
            rw [hk] at HK HRB
            rw [HRB.out] at HSC
            clear hk hb HFL
            obtain ⟨n1, n2, n3⟩ := HHF.out
            go_wp2_with fail
            refine HK.out.mono ?_
            rintro e w5 ⟨rfl, hw5⟩
            obtain rfl := hw5.symm
            go_wp2_with fail
            go_round
            case rel => exact ⟨j + 1, by omega, by go_num, by rw [HDV.out, Int.natCast_ediv]; rfl, HSC.out⟩
            case measure => simp [intOf]; omega
          | false =>
            rw [hk] at HK HRB
            have HF := hide (HFL.out HRB.out)
            clear hk hb HFL HSC
            go_wp2_with fail
            refine HK.out.mono ?_
            rintro e w5 ⟨rfl, hw5⟩
            obtain rfl := hw5.symm
            go_wp2_with fail
            go_ret
            exact ⟨by rw [HF.out]; rfl, HBE.out⟩
        · have hb0 : x % 2 = 0 := by omega
          have hr0 : (x : Int).tmod 2 = 0 := by rw [HRT.out, hb0]; rfl
          rw [if_neg hb] at HRB
          by_cases hz : r = 0
          · have HRB' : Hid (rb = true) := by show rb = true; rw [HRB.out]; simpa using hz
            rw [HRB'.out] at HSC
            have hzn : (r != 0) = false := by simpa using hz
            clear hb hb0 HFL HRB hz
            obtain ⟨n1, n2, n3⟩ := HHF.out
            go_wp2_with fail
            go_round
            case rel => exact ⟨j + 1, by omega, by go_num, by rw [HDV.out, Int.natCast_ediv]; rfl, HSC.out⟩
            case measure => simp [intOf]; omega
          · have HRB' : Hid (rb = false) := by show rb = false; rw [HRB.out]; simpa using hz
            have HF := hide (HFL.out HRB'.out)
            have hzn : (r != 0) = true := by simpa using hz
            clear hb hb0 HFL HRB hz HSC
            go_wp2_with fail
            go_ret
            exact ⟨by rw [HF.out]; rfl, HBE.out⟩
      · have hjI : ¬ (j : Int) < 12 := by omega
        obtain rfl : j = 12 := by omega
        rw [hok] at HV
        clear hok
        go_wp2_with fail
        go_ret
        exact ⟨by rw [HV.out]; rfl, HBE.out⟩
end Go.Proofs.Ytkmndllomheegaa
