/-
  The document's device (layer 5): step, Store, Load, Arm.
-/
import Derived.Test.YtnaenokegomoeaaRefDevA
namespace Go.Proofs.Ytnaenokegomoeaa
set_option linter.unusedVariables false
set_option linter.unusedSimpArgs false
open Go.RowKit

/-- where just the device's own block was turned. -/
theorem RDev.turn {w w' : World} {b : Nat} {s s' : Pm.D} {F : Nat → Prop} {g0 g1 g2 g3 : Nat} {pa : Option Addr} {pc : Nat} (h : RDev w b s F g0 g1 g2 g3 pa pc) (hs : w.heap.size ≤ w'.heap.size) (hk : ∀ k, k ≠ b → k < w.heap.size → w'.heap[k]? = w.heap[k]?)
    (hb : w'.heap[b]? = some (.cells #[.slice (some ⟨g0, 0, none⟩) s.ws.length s.ws.length, .slice (some ⟨g1, 0, none⟩) s.ws.length s.ws.length, .slice (some ⟨g2, 0, none⟩) s.ws.length s.ws.length, .slice (some ⟨g3, 0, none⟩) s.ws.length s.ws.length, .slice pa s.plan.length pc, .int .i64 s'.since, .int .i64 s'.left, .int .i64 s'.steps] 77 (0, 0)))
    (h1 : s'.ws = s.ws) (h2 : s'.plan = s.plan) (hok : s'.Ok) : RDev w' b s' F g0 g1 g2 g3 pa pc := by
  obtain ⟨n1, n2, n3, n4, n5, n6, n7, n8, n9, n10⟩ := h.ne
  have lt : ∀ {k : Nat} {o : Obj}, w.heap[k]? = some o → k < w.heap.size := fun h => (Array.getElem?_eq_some_iff.1 h).1
  refine ⟨?_, ?_, ?_, ?_, ?_, ?_, ?_, h.mine, h.ne, hok⟩
  · rw [h1, h2]; exact hb
  · rw [h1, hk g0 (Ne.symm n1) (lt h.c0)]; exact h.c0
  · rw [h1, hk g1 (Ne.symm n2) (lt h.c1)]; exact h.c1
  · rw [h1, hk g2 (Ne.symm n3) (lt h.c2)]; exact h.c2
  · rw [h1, hk g3 (Ne.symm n4) (lt h.c3)]; exact h.c3
  · rw [h2]
    obtain ⟨r1, r2⟩ := h.row
    refine ⟨r1, ?_⟩
    rcases h.apart with h0 | ⟨g, off, rfl, _, q0, q1, q2, q3, q4⟩
    · exact .inl h0
    · rcases r2 with r2 | ⟨g', off', e, hlt, hc⟩
      · exact .inl r2
      · cases e
        refine .inr ⟨g, off, rfl, Nat.lt_of_lt_of_le hlt hs, fun j hj => ?_⟩
        rw [World.cell?_of_block (w := w) (hk g q0 hlt)]
        exact hc j hj
  · rw [h2]; exact h.apart

/-- the device where all its blocks are as they were. -/
theorem RDev.kept {w w' : World} {b : Nat} {s : Pm.D} {F : Nat → Prop} {g0 g1 g2 g3 : Nat} {pa : Option Addr} {pc : Nat} (h : RDev w b s F g0 g1 g2 g3 pa pc) (hs : w.heap.size ≤ w'.heap.size) (hk : ∀ k, F k → k < w.heap.size → w'.heap[k]? = w.heap[k]?) : RDev w' b s F g0 g1 g2 g3 pa pc := by
  have lt : ∀ {k : Nat} {o : Obj}, w.heap[k]? = some o → k < w.heap.size := fun h => (Array.getElem?_eq_some_iff.1 h).1
  obtain ⟨m1, m2, m3, m4, m5⟩ := h.mine
  refine ⟨?_, ?_, ?_, ?_, ?_, ?_, h.apart, h.mine, h.ne, h.ok⟩
  · rw [hk b m1 (lt h.dev)]; exact h.dev
  · rw [hk g0 m2 (lt h.c0)]; exact h.c0
  · rw [hk g1 m3 (lt h.c1)]; exact h.c1
  · rw [hk g2 m4 (lt h.c2)]; exact h.c2
  · rw [hk g3 m5 (lt h.c3)]; exact h.c3
  · obtain ⟨r1, r2⟩ := h.row
    refine ⟨r1, ?_⟩
    rcases h.apart with h0 | ⟨g, off, rfl, hF, q0, q1, q2, q3, q4⟩
    · exact .inl h0
    · rcases r2 with r2 | ⟨g', off', e, hlt, hc⟩
      · exact .inl r2
      · cases e
        refine .inr ⟨g, off, rfl, Nat.lt_of_lt_of_le hlt hs, fun j hj => ?_⟩
        rw [World.cell?_of_block (w := w) (hk g hF hlt)]
        exact hc j hj

theorem RDev.drew {w : World} {b : Nat} {s : Pm.D} {F : Nat → Prop} {g0 g1 g2 g3 : Nat} {pa : Option Addr} {pc : Nat} (h : RDev w b s F g0 g1 g2 g3 pa pc) (n : Nat) : RDev (w.drewN n) b s F g0 g1 g2 g3 pa pc := h.kept (Nat.le_refl _) (fun _ _ _ => rfl)
theorem Only.drewN (F : Nat → Prop) (w : World) (n : Nat) : Only F w (w.drewN n) := ⟨rfl, rfl, rfl, Nat.le_refl _, fun _ _ _ => rfl⟩

/-- behind a step: the three counters. -/
theorem RDev.count {w : World} {b : Nat} {s : Pm.D} {F : Nat → Prop} {g0 g1 g2 g3 : Nat} {pa : Option Addr} {pc : Nat} (h : RDev w b s F g0 g1 g2 g3 pa pc) :
    (s.left ≤ 0 → RDev ((w.setCell ⟨b, 5, none⟩ (.int .i64 ((s.since : Int) + 1))).setCell ⟨b, 7, none⟩ (.int .i64 ((s.steps : Int) + 1))) b ⟨s.ws, s.plan, s.since + 1, s.left, s.steps + 1⟩ F g0 g1 g2 g3 pa pc) ∧
    (0 < s.left → RDev (((w.setCell ⟨b, 5, none⟩ (.int .i64 ((s.since : Int) + 1))).setCell ⟨b, 7, none⟩ (.int .i64 ((s.steps : Int) + 1))).setCell ⟨b, 6, none⟩ (.int .i64 (s.left - 1))) b ⟨s.ws, s.plan, s.since + 1, s.left - 1, s.steps + 1⟩ F g0 g1 g2 g3 pa pc) := by
  have hl := h.ok.left
  have hsn := h.ok.since
  have e1 := heap_set h.dev 5 (.int .i64 ((s.since : Int) + 1))
  have e2 := heap_set e1 7 (.int .i64 ((s.steps : Int) + 1))
  have e3 := heap_set e2 6 (.int .i64 (s.left - 1))
  refine ⟨fun h0 => ?_, fun h0 => ?_⟩
  · refine h.turn (by simp [World.setCell]) (fun k hk _ => by rw [heap_set_other hk, heap_set_other hk]) ?_ rfl rfl ⟨h.ok.ws, h.ok.plan, h.ok.left, by simp; omega⟩
    rw [e2]
    rfl
  · refine h.turn (by simp [World.setCell]) (fun k hk _ => by rw [heap_set_other hk, heap_set_other hk, heap_set_other hk]) ?_ rfl rfl ⟨h.ok.ws, h.ok.plan, ⟨by simp; omega, by simp; omega⟩, by simp; omega⟩
    rw [e3]
    rfl

set_option maxHeartbeats 1000000 in
/-- the document's step. -/
theorem rstep_any {w : World} {b : Nat} {s : Pm.D} {F : Nat → Prop} {g0 g1 g2 g3 : Nat} {pa : Option Addr} {pc : Nat} (h : RDev w b s F g0 g1 g2 g3 pa pc) (hm : s.ws.length ≤ 40000) (hp : s.plan.length ≤ 40000) (hst : s.steps ≤ 1000000) :
    Calls Try.prog 72 #[.pointer (some ⟨b, 0, none⟩)] w fun e w' => e = .returned (.tuple #[]) ∧ RDev w' b (Pm.step s s.ws) F g0 g1 g2 g3 pa pc ∧ Only F w w' := by
  have hsn := h.ok.since
  have hl1 := h.ok.left.2
  have HST : ∀ ws, Pm.evict s.ws s.plan s.since = ws → (s.left ≤ 0 → Pm.step s s.ws = ⟨ws, s.plan, s.since + 1, s.left, s.steps + 1⟩) ∧ (0 < s.left → Pm.step s s.ws = ⟨ws, s.plan, s.since + 1, s.left - 1, s.steps + 1⟩) := fun ws hws => by
    unfold Pm.step
    rw [hws]
    refine ⟨fun h => by rw [if_neg (by omega)], fun h => by rw [if_pos h]⟩
  have HS := hide HST
  clear HST
  have HM := hide h.mine.1
  by_cases hpl : s.plan.length = 0 ∨ s.ws.length = 0
  · have HE : Hid (Pm.evict s.ws s.plan s.since = s.ws) := by
      show _ = _
      unfold Pm.evict
      rw [if_pos hpl]
    have HR := hide h.count
    obtain ⟨f0, f1, f2, f3, f4, f5, f6, f7⟩ := h.fields
    have z5 := h.free 5
    have z6 := h.free 6
    have z7 := h.free 7
    have HSS := hide (HS.out s.ws HE.out)
    have hq : (¬ (0 : Int) < (s.plan.length : Int)) ∨ ((0 : Int) < (s.plan.length : Int) ∧ ¬ (0 : Int) < (s.ws.length : Int)) := by omega
    clear h hpl
    by_cases hl : 0 < s.left
    · rcases hq with q | ⟨q, q2⟩
      all_goals
        go_enter Try.func72, Try.ntmps72
        go_wp2
        go_end0
        exact ⟨rfl, by rw [HSS.out.2 hl]; exact HR.out.2 hl, (((Only.refl F w).setCell HM.out _).setCell HM.out _).setCell HM.out _⟩
    · rcases hq with q | ⟨q, q2⟩
      all_goals
        go_enter Try.func72, Try.ntmps72
        go_wp2
        go_end0
        exact ⟨rfl, by rw [HSS.out.1 (by omega)]; exact HR.out.1 (by omega), ((Only.refl F w).setCell HM.out _).setCell HM.out _⟩
  · obtain ⟨hp0, hw0⟩ : 0 < s.plan.length ∧ 0 < s.ws.length := by omega
    obtain ⟨j, hj⟩ : ∃ j, s.since % s.plan.length = j := ⟨_, rfl⟩
    have hjl : j < s.plan.length := by rw [← hj]; exact Nat.mod_lt _ hp0
    have hmod : (s.since : Int).tmod (s.plan.length : Int) = (j : Int) := by rw [Int.tmod_eq_emod_of_nonneg (by omega)]; omega
    obtain ⟨r1, r2⟩ := h.row
    rcases r2 with r2 | ⟨g, off, rfl, hlt, hc⟩
    · omega
    have hcj := hc j hjl
    have hpb := h.ok.plan (s.plan.getD j 0) (by
      have : s.plan.getD j 0 = s.plan[j] := by simp [hjl]
      rw [this]
      exact List.getElem_mem hjl)
    obtain ⟨p, hpp⟩ : ∃ p, s.plan.getD j 0 = p := ⟨_, rfl⟩
    have hev : Pm.evict s.ws s.plan s.since = if p < 0 then s.ws else s.ws.set (p.toNat % s.ws.length) ((s.ws.getD (p.toNat % s.ws.length) (Pm.still 0)).last (s.ws.getD (p.toNat % s.ws.length) (Pm.still 0)).stored) := by
      unfold Pm.evict
      rw [if_neg hpl]
      simp only
      rw [hj, hpp]
    rw [hpp] at hcj hpb
    have q1 : (0 : Int) < (s.plan.length : Int) := by omega
    have q2 : (0 : Int) < (s.ws.length : Int) := by omega
    have q3 : (j : Int) < (s.plan.length : Int) := by omega
    obtain ⟨f0, f1, f2, f3, f4, f5, f6, f7⟩ := h.fields
    clear hpl r1 hc hpp hj
    by_cases hneg : p < 0
    · rw [if_pos hneg] at hev
      have HSS := hide (HS.out s.ws hev)
      have HR := hide (fun n => (h.drew n).count)
      have z5 := h.free 5
      have z6 := h.free 6
      have z7 := h.free 7
      have hneg' : ¬ (0 : Int) ≤ p := by omega
      clear h hev
      by_cases hl : 0 < s.left
      · go_enter Try.func72, Try.ntmps72
        go_wp2_with fail
        go_quiet (fail)
        go_wp2
        go_end0
        exact ⟨rfl, by rw [HSS.out.2 hl]; exact (HR.out _).2 hl, (((Only.drewN F w _).setCell HM.out _).setCell HM.out _).setCell HM.out _⟩
      · go_enter Try.func72, Try.ntmps72
        go_wp2_with fail
        go_quiet (fail)
        go_wp2
        go_end0
        exact ⟨rfl, by rw [HSS.out.1 (by omega)]; exact (HR.out _).1 (by omega), ((Only.drewN F w _).setCell HM.out _).setCell HM.out _⟩
    · rw [if_neg hneg] at hev
      have HSS := hide (HS.out _ hev)
      obtain ⟨i, hi⟩ : ∃ i, p.toNat % s.ws.length = i := ⟨_, rfl⟩
      have hil : i < s.ws.length := by rw [← hi]; exact Nat.mod_lt _ hw0
      have hmod2 : p.tmod (s.ws.length : Int) = (i : Int) := by rw [Int.tmod_eq_emod_of_nonneg (by omega), ← hi, Int.natCast_emod, Int.toNat_of_nonneg (by omega)]
      rw [hi] at HSS
      obtain ⟨k1, _⟩ := cell_blk h.c1 (i := i) (by rw [storedL_len]; exact hil)
      have hst1 : (Pm.storedL s.ws).getD i 0 = (s.ws.getD i (Pm.still 0)).stored := by simp [Pm.storedL, hil]
      rw [hst1] at k1
      have hok := Pm.getD_ok h.ok.ws i
      have HLAST := hide (fun W (hW : RDev W b s F g0 g1 g2 g3 (some ⟨g, off, none⟩) pc) => rlast_any hW i (s.ws.getD i (Pm.still 0)).stored hil hok.s0 hok.s1 hm)
      have HD := hide h
      have hneg' : (0 : Int) ≤ p := by omega
      have q4 : (i : Int) < (s.ws.length : Int) := by omega
      have hv0 := hok.s0
      have hv1 := hok.s1
      have hnz : ((s.ws.length : Int) == 0) = false := beq_eq_false_iff_ne.2 (by omega)
      have hnz' : ¬ (s.ws.length : Int) = 0 := by omega
      clear h hev hst1 hi hok
      generalize hv : (s.ws.getD i (Pm.still 0)).stored = v at *
      clear hv
      generalize hn : s.ws.length = n at f0 f1 f2 f3 q2 q4 hmod2 hil hnz hnz' hm
      clear hn hw0
      go_enter Try.func72, Try.ntmps72
      go_wp2_with fail
      go_quiet (fail)
      go_wp2_with fail
      go_region_with ((go_at_call 73; refine (HLAST.out _ (HD.out.drew _)).mono ?_; rintro e w1 ⟨rfl, hd1, ho1'⟩; have ho1 := (Only.drewN F w _).trans ho1'; clear ho1'))
      all_goals
        have HO1 := hide ho1
        have HR := hide hd1.count
        obtain ⟨_, _, _, _, _, y5, y6, y7⟩ := hd1.fields
        have z5 := hd1.free 5
        have z6 := hd1.free 6
        have z7 := hd1.free 7
        simp only at y5 y6 y7
        clear hd1 ho1 f0 f1 f2 f3 f4 f5 f6 f7 k1 hcj
        by_cases hl : 0 < s.left
        · go_wp2
          go_end0
          exact ⟨rfl, by rw [HSS.out.2 hl]; exact HR.out.2 hl, HO1.out.trans ((((Only.refl F w1).setCell HM.out _).setCell HM.out _).setCell HM.out _)⟩
        · go_wp2
          go_end0
          exact ⟨rfl, by rw [HSS.out.1 (by omega)]; exact HR.out.1 (by omega), HO1.out.trans (((Only.refl F w1).setCell HM.out _).setCell HM.out _)⟩
end Go.Proofs.Ytnaenokegomoeaa
