/-
  The program's device (layer 5): evict, followPlan.
-/
import Derived.Test.YtnaenokegomoeaaPmB
import Derived.Deep.RegionHeld3
namespace Go.Proofs.Ytnaenokegomoeaa
set_option linter.unusedVariables false
set_option linter.unusedSimpArgs false
open Go.RowKit

theorem Only.grown {F : Nat → Prop} {a w w' : World} {g : Nat} (h : Only F a w) (hg : w.grownBy w' (some g)) (hF : F g) : Only F a w' :=
  h.trans ⟨hg.os, hg.tape, hg.output, hg.size, fun k hk hn => hg.block k hk (fun e => hn (by cases e; exact hF))⟩
theorem keyI {i : Nat} (h : i ≤ 40000) : keyOf Try.prog 3 (.int .i64 (i : Int)) = some (.int .i64 (i : Int)) := Maps.keyOf_int_mk Try.underlying3 (wf_of_bd ⟨by omega, by omega⟩)

/-- a word that was evicted. -/
theorem PX.evicted {w : World} {b : Nat} {s : Pm.D} {F : Nat → Prop} {g0 g1 c1 gm n : Nat} {tl : List Value} {M : DataW Unit} {pa : Option Addr} {pc : Nat} {laid : Int} (h : PX w b s F g0 g1 c1 gm n tl M pa pc laid) {i : Nat} (hi : i < s.ws.length) {W : World} (hs : w.heap.size ≤ W.heap.size)
    (hk : ∀ k, k ≠ gm → k < w.heap.size → W.heap[k]? = (w.setCell ⟨g0, i, none⟩ (.int .u64 (s.ws.getD i (Pm.still 0)).stored)).heap[k]?)
    (hown : W.ownsMap Try.prog 3 (plainElem Try.prog 22) gm n (M.del (.int .i64 i))) :
    PX W b { s with ws := s.ws.set i ((s.ws.getD i (Pm.still 0)).last (s.ws.getD i (Pm.still 0)).stored) } F g0 g1 c1 gm n tl (M.del (.int .i64 i)) pa pc laid := by
  obtain ⟨n1, n2, n3, n4, n5, n6⟩ := h.ne
  obtain ⟨e1, e2, e3, e4⟩ := set_last s.ws i (s.ws.getD i (Pm.still 0)).stored hi
  have hx := Pm.getD_ok h.ok.ws i
  refine ⟨?_, ?_, ?_, hown, h.sent.del hi rfl rfl, by simp only [List.length_set]; exact h.cap, ?_, h.apart, h.mine, h.ne, h.lay, h.laid0, ⟨?_, h.ok.plan, h.ok.left, h.ok.since⟩⟩
  · rw [hk b n3 (heap_lt h.dev), heap_set_other n1]
    simp only [List.length_set]
    exact h.dev
  · rw [hk g0 n5 (heap_lt h.k0), heap_set h.k0, blk_set]
    simp only [e1]
  · rw [hk g1 n6 (heap_lt h.k1), heap_set_other (Ne.symm n4)]
    simp only [e2]
    exact h.k1
  · exact h.row' hs (fun k _ q0 _ q2 hlt => (hk k q2 hlt).trans (heap_set_other q0 _ _))
  · intro x hx'
    rcases Pm.mem_set hx' with hx' | rfl
    · exact h.ok.ws x hx'
    · exact hx.last hx.s0 hx.s1

set_option maxHeartbeats 1000000 in
theorem pevict_x {w : World} {b : Nat} {s : Pm.D} {F : Nat → Prop} {g0 g1 c1 gm n : Nat} {tl : List Value} {M : DataW Unit} {pa : Option Addr} {pc : Nat} {laid : Int} (h : PX w b s F g0 g1 c1 gm n tl M pa pc laid) (i : Nat) (hi : i < s.ws.length) (hm : s.ws.length ≤ 40000) :
    Calls Try.prog 75 #[.pointer (some ⟨b, 0, none⟩), .int .i64 i] w fun e w' => e = .returned (.tuple #[]) ∧
      PX w' b { s with ws := s.ws.set i ((s.ws.getD i (Pm.still 0)).last (s.ws.getD i (Pm.still 0)).stored) } F g0 g1 c1 gm n tl (M.del (.int .i64 i)) pa pc laid ∧ Only F w w' := by
  obtain ⟨f0, f1, f2, f3, f4, f5, f6, f7⟩ := h.fields
  obtain ⟨n1, n2, n3, n4, n5, n6⟩ := h.ne
  obtain ⟨q0, z0⟩ := cell_blk h.k0 (i := i) (by rw [lastL_len]; exact hi)
  obtain ⟨q1, _⟩ := cell_blkT h.k1 (i := i) (by rw [storedL_len]; exact hi)
  have hst1 : (Pm.storedL s.ws).getD i 0 = (s.ws.getD i (Pm.still 0)).stored := by simp [Pm.storedL, hi]
  rw [hst1] at q1
  have HE := hide (fun W : World => h.evicted hi (W := W))
  have HM := hide h.mine
  have hmp := h.mp
  have HMP : Hid (∀ v, ((w.setCell ⟨g0, i, none⟩ v).drew).ownsMap Try.prog 3 (plainElem Try.prog 22) gm n M) := fun v => ownsMap_block h.mp (heap_set_other (Ne.symm n5) _ _)
  have n1' := Ne.symm n1
  have hkey := keyI (i := i) (by omega)
  have hin : (i : Int) < (s.ws.length : Int) := by omega
  clear h hst1 hmp
  generalize hv : (s.ws.getD i (Pm.still 0)).stored = v at *
  generalize (Pm.lastL s.ws).getD i 0 = y0 at *
  generalize s.ws.length = N at *
  have hlt0 := World.block_lt_of_cell? w _ q0
  go_enter Try.func75, Try.ntmps75
  go_wp2_with fail
  go_region_held3 (fun w' => w'.cell? ⟨b, 0, none⟩ = some (.slice (some ⟨g0, 0, none⟩) N N) ∧ w'.cell? ⟨b, 1, none⟩ = some (.slice (some ⟨g1, 0, none⟩) N c1) ∧ w'.cell? ⟨g1, i, none⟩ = some (.int .u64 v)) (go_keep) (fail)
  go_wp2_with (first
    | (at_delete; refine wpList_delete_own _ rfl _ _ 78 3 rfl 22 lawI Try.underlying78 _ gm n M rfl (HMP.out _) _ _ rfl hkey ?_; intro w1 hown1 hturn1)
    | go_in)
  go_end0
  refine ⟨rfl, HE.out w1 ?_ ?_ hown1, ((((Only.refl F w).setCell (p := ⟨g0, i, none⟩) HM.out.2.1 (.int .u64 v)).trans (Only.drewN F _ 1)).grown hturn1.grown HM.out.2.2.2)⟩
  · have := hturn1.grown.size
    simpa [World.setCell] using this
  · intro k hk hlt
    rw [hturn1.grown.block k (by simpa [World.setCell] using hlt) (fun e => hk (by cases e; rfl))]
    rfl

set_option maxHeartbeats 1000000 in
theorem pfollow_x {w : World} {b : Nat} {s : Pm.D} {F : Nat → Prop} {g0 g1 c1 gm n : Nat} {tl : List Value} {M : DataW Unit} {pa : Option Addr} {pc : Nat} {laid : Int} (h : PX w b s F g0 g1 c1 gm n tl M pa pc laid) (hm : s.ws.length ≤ 40000) (hp : s.plan.length ≤ 40000) (hst : s.steps ≤ 1000000) :
    Calls Try.prog 66 #[.pointer (some ⟨b, 0, none⟩)] w fun e w' => e = .returned (.tuple #[]) ∧ (∃ M', PX w' b { s with ws := Pm.evict s.ws s.plan s.since } F g0 g1 c1 gm n tl M' pa pc laid) ∧ Only F w w' := by
  have hsn := h.ok.since
  by_cases hpl : s.plan.length = 0 ∨ s.ws.length = 0
  · have HE : Hid (Pm.evict s.ws s.plan s.since = s.ws) := by
      show _ = _
      unfold Pm.evict
      rw [if_pos hpl]
    have HD := hide h
    obtain ⟨f0, f1, f2, f3, f4, f5, f6, f7⟩ := h.fields
    have hq : ((s.plan.length : Int) = 0) ∨ (¬ (s.plan.length : Int) = 0 ∧ (s.ws.length : Int) = 0) := by omega
    clear h hpl
    generalize hA : (s.plan.length : Int) = A at *
    generalize hB : (s.ws.length : Int) = B at *
    rcases hq with q | ⟨q, q2⟩
    all_goals
      go_enter Try.func66, Try.ntmps66
      go_wp2
      (try simp only [Exit.inBlock, Exit.then])
      refine bodyPost_ret (results_none rfl _ _ _) rfl ?_
      exact ⟨rfl, ⟨M, by rw [HE.out]; exact HD.out⟩, Only.refl F w⟩
  · obtain ⟨hp0, hw0⟩ : 0 < s.plan.length ∧ 0 < s.ws.length := by omega
    obtain ⟨j, hj⟩ : ∃ j, s.since % s.plan.length = j := ⟨_, rfl⟩
    have hjl : j < s.plan.length := by rw [← hj]; exact Nat.mod_lt _ hp0
    have hmod : (s.since : Int).tmod (s.plan.length : Int) = (j : Int) := by rw [Int.tmod_eq_emod_of_nonneg (by omega)]; omega
    obtain ⟨r1, r2⟩ := h.row
    rcases r2 with r2 | ⟨g, off, rfl, hlt, hc⟩
    · omega
    have hcj := hc j hjl
    have hpb := h.ok.plan (s.plan.getD j 0) (by
      have : s.plan.getD j 0 = s.plan[j] := by simp [hjl]
      rw [this]
      exact List.getElem_mem hjl)
    obtain ⟨p, hpp⟩ : ∃ p, s.plan.getD j 0 = p := ⟨_, rfl⟩
    have hev : Pm.evict s.ws s.plan s.since = if p < 0 then s.ws else s.ws.set (p.toNat % s.ws.length) ((s.ws.getD (p.toNat % s.ws.length) (Pm.still 0)).last (s.ws.getD (p.toNat % s.ws.length) (Pm.still 0)).stored) := by
      unfold Pm.evict
      rw [if_neg hpl]
      simp only
      rw [hj, hpp]
    rw [hpp] at hcj hpb
    have hsub : (s.steps : Int) - laid = (s.since : Int) := by
      rcases h.lay with h0 | h0 <;> omega
    have q1 : ¬ (s.plan.length : Int) = 0 := by omega
    have q2 : ¬ (s.ws.length : Int) = 0 := by omega
    have q3 : (j : Int) < (s.plan.length : Int) := by omega
    have hl0 := h.laid0
    obtain ⟨f0, f1, f2, f3, f4, f5, f6, f7⟩ := h.fields
    clear hpl r1 hc hpp hj
    by_cases hneg : p < 0
    · rw [if_pos hneg] at hev
      have HE := hide hev
      have HD := hide (fun k => h.drew k)
      have hneg' : ¬ (0 : Int) ≤ p := by omega
      clear h hev
      generalize s.plan.length = P at f6 q1 q3 hmod hjl hp hp0
      generalize s.ws.length = N at f0 f1 q2 hm hw0
      have hnz' : ((P : Int) == 0) = false := beq_eq_false_iff_ne.2 q1
      go_enter Try.func66, Try.ntmps66
      go_wp2_with fail
      go_quiet (fail)
      go_wp2
      go_end0
      exact ⟨rfl, ⟨M, by rw [HE.out]; exact HD.out _⟩, Only.drewN F w _⟩
    · rw [if_neg hneg] at hev
      obtain ⟨i, hi⟩ : ∃ i, p.toNat % s.ws.length = i := ⟨_, rfl⟩
      have hil : i < s.ws.length := by rw [← hi]; exact Nat.mod_lt _ hw0
      have hmod2 : p.tmod (s.ws.length : Int) = (i : Int) := by rw [Int.tmod_eq_emod_of_nonneg (by omega), ← hi, Int.natCast_emod, Int.toNat_of_nonneg (by omega)]
      rw [hi] at hev
      have HE := hide hev
      have HV := hide (fun k => pevict_x (h.drew k) i hil hm)
      have hneg' : (0 : Int) ≤ p := by omega
      have hnz : ((s.ws.length : Int) == 0) = false := beq_eq_false_iff_ne.2 (by omega)
      clear h hev hi
      generalize hn : s.ws.length = N at f0 f1 q2 hmod2 hil hnz hm
      clear hn hw0
      generalize s.plan.length = P at f6 q1 q3 hmod hjl hp hp0
      have hnz' : ((P : Int) == 0) = false := beq_eq_false_iff_ne.2 q1
      go_enter Try.func66, Try.ntmps66
      go_wp2_with fail
      go_quiet (fail)
      go_wp2_with (go_at_call 75; refine (HV.out _).mono ?_; rintro e w1 ⟨rfl, hd1, ho1⟩)
      go_end0
      exact ⟨rfl, ⟨_, by rw [HE.out]; exact hd1⟩, (Only.drewN F w _).trans ho1⟩
end Go.Proofs.Ytnaenokegomoeaa
