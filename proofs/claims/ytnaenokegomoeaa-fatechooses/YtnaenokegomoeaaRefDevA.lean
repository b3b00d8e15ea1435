/-
  The document's device (layer 5) in memory; its error, last and step.
-/
import Derived.Test.YtnaenokegomoeaaGround
import Derived.Test.YtnaenokegomoeaaPmPlain
import Derived.BigQuiet
import Derived.Deep.RegionWith
namespace Go.Proofs.Ytnaenokegomoeaa
set_option linter.unusedVariables false
set_option linter.unusedSimpArgs false
open Go.RowKit

def sentL (ws : List Pm.W) : List Int := ws.map Pm.W.sent
def flushL (ws : List Pm.W) : List Bool := ws.map Pm.W.flushed
theorem lastL_len (ws : List Pm.W) : (Pm.lastL ws).length = ws.length := by simp [Pm.lastL]
theorem storedL_len (ws : List Pm.W) : (Pm.storedL ws).length = ws.length := by simp [Pm.storedL]
theorem sentL_len (ws : List Pm.W) : (sentL ws).length = ws.length := by simp [sentL]
theorem flushL_len (ws : List Pm.W) : (flushL ws).length = ws.length := by simp [flushL]

/-- the document's device at block b: its words in the blocks g0 to g3, its plan at pa. -/
structure RDev (w : World) (b : Nat) (s : Pm.D) (F : Nat → Prop) (g0 g1 g2 g3 : Nat) (pa : Option Addr) (pc : Nat) : Prop where
  dev : w.heap[b]? = some (.cells #[.slice (some ⟨g0, 0, none⟩) s.ws.length s.ws.length, .slice (some ⟨g1, 0, none⟩) s.ws.length s.ws.length, .slice (some ⟨g2, 0, none⟩) s.ws.length s.ws.length, .slice (some ⟨g3, 0, none⟩) s.ws.length s.ws.length, .slice pa s.plan.length pc, .int .i64 s.since, .int .i64 s.left, .int .i64 s.steps] 77 (0, 0))
  c0 : w.heap[g0]? = some (.cells (blk .u64 (Pm.lastL s.ws)) 22 (0, 0))
  c1 : w.heap[g1]? = some (.cells (blk .u64 (Pm.storedL s.ws)) 22 (0, 0))
  c2 : w.heap[g2]? = some (.cells (blk .u64 (sentL s.ws)) 22 (0, 0))
  c3 : w.heap[g3]? = some (.cells (blkB (flushL s.ws)) 4 (0, 0))
  row : Row .i64 w pa s.plan.length s.plan
  apart : s.plan.length = 0 ∨ ∃ g off, pa = some ⟨g, off, none⟩ ∧ F g ∧ g ≠ b ∧ g ≠ g0 ∧ g ≠ g1 ∧ g ≠ g2 ∧ g ≠ g3
  mine : F b ∧ F g0 ∧ F g1 ∧ F g2 ∧ F g3
  ne : b ≠ g0 ∧ b ≠ g1 ∧ b ≠ g2 ∧ b ≠ g3 ∧ g0 ≠ g1 ∧ g0 ≠ g2 ∧ g0 ≠ g3 ∧ g1 ≠ g2 ∧ g1 ≠ g3 ∧ g2 ≠ g3
  ok : s.Ok

theorem RDev.fields {w : World} {b : Nat} {s : Pm.D} {F : Nat → Prop} {g0 g1 g2 g3 : Nat} {pa : Option Addr} {pc : Nat} (h : RDev w b s F g0 g1 g2 g3 pa pc) :
    w.cell? ⟨b, 0, none⟩ = some (.slice (some ⟨g0, 0, none⟩) s.ws.length s.ws.length) ∧ w.cell? ⟨b, 1, none⟩ = some (.slice (some ⟨g1, 0, none⟩) s.ws.length s.ws.length) ∧ w.cell? ⟨b, 2, none⟩ = some (.slice (some ⟨g2, 0, none⟩) s.ws.length s.ws.length) ∧
    w.cell? ⟨b, 3, none⟩ = some (.slice (some ⟨g3, 0, none⟩) s.ws.length s.ws.length) ∧ w.cell? ⟨b, 4, none⟩ = some (.slice pa s.plan.length pc) ∧ w.cell? ⟨b, 5, none⟩ = some (.int .i64 s.since) ∧ w.cell? ⟨b, 6, none⟩ = some (.int .i64 s.left) ∧ w.cell? ⟨b, 7, none⟩ = some (.int .i64 s.steps) := by
  simp [World.cell?, h.dev]
theorem RDev.free {w : World} {b : Nat} {s : Pm.D} {F : Nat → Prop} {g0 g1 g2 g3 : Nat} {pa : Option Addr} {pc : Nat} (h : RDev w b s F g0 g1 g2 g3 pa pc) (i : Nat) : w.frozen? ⟨b, i, none⟩ = false := by
  simp [World.frozen?, h.dev]

/-- the document's error. -/
theorem rerr_any {w : World} {b : Nat} {s : Pm.D} {F : Nat → Prop} {g0 g1 g2 g3 : Nat} {pa : Option Addr} {pc : Nat} (h : RDev w b s F g0 g1 g2 g3 pa pc) (a : Int) (n : Nat) :
    Calls Try.prog 71 #[.pointer (some ⟨b, 0, none⟩), .int .i64 a, .int .i64 n] w fun e w' => e = .returned (.int .i64 (Pm.err s a n)) ∧ w' = w := by
  obtain ⟨_, _, _, _, _, _, h6, _⟩ := h.fields
  rcases (show (s.left = 0 ∧ Pm.err s a n = 3) ∨ (s.left ≠ 0 ∧ a < 0 ∧ Pm.err s a n = 2) ∨ (s.left ≠ 0 ∧ ¬ a < 0 ∧ (n : Int) ≤ a ∧ Pm.err s a n = 2) ∨ (s.left ≠ 0 ∧ ¬ a < 0 ∧ ¬ (n : Int) ≤ a ∧ Pm.err s a n = 0) by
    unfold Pm.err
    by_cases h1 : s.left = 0
    · simp [h1]
    · by_cases h2 : a < 0
      · simp [h1, h2]
      · by_cases h3 : (n : Int) ≤ a
        · simp [h1, h2, h3]
        · simp [h1, h2, h3]) with ⟨k1, k⟩ | ⟨k1, k2, k⟩ | ⟨k1, k2, k3, k⟩ | ⟨k1, k2, k3, k⟩
  all_goals
    have HK := hide k
    clear k h
    go_enter Try.func71, Try.ntmps71
    go_wp2
    go_ret
    exact ⟨by rw [HK.out]; rfl, rfl⟩

theorem set_last (ws : List Pm.W) (i : Nat) (v : Int) (h : i < ws.length) : Pm.lastL (ws.set i ((ws.getD i (Pm.still 0)).last v)) = (Pm.lastL ws).set i v ∧ Pm.storedL (ws.set i ((ws.getD i (Pm.still 0)).last v)) = Pm.storedL ws ∧ sentL (ws.set i ((ws.getD i (Pm.still 0)).last v)) = (sentL ws).set i 0 ∧ flushL (ws.set i ((ws.getD i (Pm.still 0)).last v)) = (flushL ws).set i false := by
  refine ⟨?_, ?_, ?_, ?_⟩
  · unfold Pm.lastL; rw [List.map_set]; rfl
  · unfold Pm.storedL
    rw [List.map_set]
    apply List.ext_getElem?
    intro j
    rw [List.getElem?_set]
    split
    · rename_i e
      subst e
      simp [h, Pm.W.last]
    · rfl
  · unfold sentL; rw [List.map_set]; rfl
  · unfold flushL; rw [List.map_set]; rfl

set_option maxHeartbeats 1000000 in
/-- the document's last. -/
theorem rlast_any {w : World} {b : Nat} {s : Pm.D} {F : Nat → Prop} {g0 g1 g2 g3 : Nat} {pa : Option Addr} {pc : Nat} (h : RDev w b s F g0 g1 g2 g3 pa pc) (i : Nat) (v : Int) (hi : i < s.ws.length) (hv0 : 0 ≤ v) (hv1 : v ≤ 18446744073709551615) (hm : s.ws.length ≤ 40000) :
    Calls Try.prog 73 #[.pointer (some ⟨b, 0, none⟩), .int .i64 i, .int .u64 v] w fun e w' => e = .returned (.tuple #[]) ∧ RDev w' b { s with ws := s.ws.set i ((s.ws.getD i (Pm.still 0)).last v) } F g0 g1 g2 g3 pa pc ∧ Only F w w' := by
  obtain ⟨f0, f1, f2, f3, f4, f5, f6, f7⟩ := h.fields
  obtain ⟨n1, n2, n3, n4, n5, n6, n7, n8, n9, n10⟩ := h.ne
  obtain ⟨e1, e2, e3, e4⟩ := set_last s.ws i v hi
  obtain ⟨k0, z0⟩ := cell_blk h.c0 (i := i) (by rw [lastL_len]; exact hi)
  obtain ⟨k2, z2⟩ := cell_blk h.c2 (i := i) (by rw [sentL_len]; exact hi)
  obtain ⟨k3, z3⟩ := cell_blkB h.c3 (i := i) (by rw [flushL_len]; exact hi)
  have HD : Hid (RDev (((w.setCell ⟨g0, i, none⟩ (.int .u64 v)).setCell ⟨g2, i, none⟩ (.int .u64 0)).setCell ⟨g3, i, none⟩ (.bool false)) b { s with ws := s.ws.set i ((s.ws.getD i (Pm.still 0)).last v) } F g0 g1 g2 g3 pa pc) := by
    refine ⟨?_, ?_, ?_, ?_, ?_, ?_, h.apart, h.mine, h.ne, ⟨?_, h.ok.plan, h.ok.left, h.ok.since⟩⟩
    · rw [heap_set_other n4, heap_set_other n3, heap_set_other n1]
      simpa using h.dev
    · rw [heap_set_other n7, heap_set_other n6, heap_set h.c0, blk_set]
      simp only [e1]
    · rw [heap_set_other n9, heap_set_other n8, heap_set_other (Ne.symm n5)]
      simp only [e2]
      exact h.c1
    · rw [heap_set_other n10, heap_set (by rw [heap_set_other (Ne.symm n6)]; exact h.c2), blk_set]
      simp only [e3]
    · rw [heap_set (by rw [heap_set_other (Ne.symm n10), heap_set_other (Ne.symm n7)]; exact h.c3), blkB_set]
      simp only [e4]
    · obtain ⟨r1, r2⟩ := h.row
      refine ⟨r1, ?_⟩
      rcases h.apart with h0 | ⟨g, off, rfl, _, q0, q1, q2, q3, q4⟩
      · exact .inl h0
      · rcases r2 with r2 | ⟨g', off', e, hlt, hc⟩
        · exact .inl r2
        · cases e
          refine .inr ⟨g, off, rfl, by simpa [World.setCell] using hlt, fun j hj => ?_⟩
          rw [World.cell?_setCell_other _ _ _ _ (fun e => q4 (by cases e; rfl)), World.cell?_setCell_other _ _ _ _ (fun e => q3 (by cases e; rfl)), World.cell?_setCell_other _ _ _ _ (fun e => q1 (by cases e; rfl))]
          exact hc j hj
    · intro x hx
      rcases Pm.mem_set hx with hx | rfl
      · exact h.ok.ws x hx
      · exact (Pm.getD_ok h.ok.ws i).last hv0 hv1
  have HO : Hid (Only F w (((w.setCell ⟨g0, i, none⟩ (.int .u64 v)).setCell ⟨g2, i, none⟩ (.int .u64 0)).setCell ⟨g3, i, none⟩ (.bool false))) := (((Only.refl F w).setCell h.mine.2.1 _).setCell h.mine.2.2.2.1 _).setCell h.mine.2.2.2.2 _
  clear h e1 e2 e3 e4
  have hin : (i : Int) < (s.ws.length : Int) := by omega
  generalize s.ws.length = n at *
  generalize (Pm.lastL s.ws).getD i 0 = y0 at *
  generalize (sentL s.ws).getD i 0 = y2 at *
  generalize (flushL s.ws).getD i false = y3 at *
  go_enter Try.func73, Try.ntmps73
  go_wp2
  go_end0
  exact ⟨rfl, HD.out, HO.out⟩
end Go.Proofs.Ytnaenokegomoeaa
