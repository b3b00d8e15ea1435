/-
  The document's device (layer 5): New.
-/
import Derived.Test.YtnaenokegomoeaaRefDevD
namespace Go.Proofs.Ytnaenokegomoeaa
set_option linter.unusedVariables false
set_option linter.unusedSimpArgs false
open Go.RowKit

theorem make_u64 (n : Nat) (h : n ≤ 281474976710656) (w : World) (hn : 8 * n ≤ 281474976710656) :
    (Instr.makeSlice 26 (.int .i64 (n : Int)) (.int .i64 (n : Int))).run Try.prog w = .ok (.slice (some ⟨w.heap.size, 0, none⟩) n n) (w.alloc (.cells (blk .u64 (List.replicate n 0)) 22)) := by
  have h := run_make_row' (P := Try.prog) 26 22 (.int .u64 0) 8 Try.underlying26 (by kernel_rfl) rfl .i64 .i64 n (by omega) (by omega) w
  rw [h, blk_made]
theorem make_bools (n : Nat) (h : n ≤ 281474976710656) (w : World) :
    (Instr.makeSlice 75 (.int .i64 (n : Int)) (.int .i64 (n : Int))).run Try.prog w = .ok (.slice (some ⟨w.heap.size, 0, none⟩) n n) (w.alloc (.cells (blkB (List.replicate n false)) 4)) := by
  have h := run_make_row' (P := Try.prog) 75 4 (.bool false) 1 Try.underlying75 (by kernel_rfl) rfl .i64 .i64 n (by omega) (by omega) w
  rw [h, blkB_made]

/-- a device that was made. -/
theorem rdev_made {w W : World} {b g0 g1 g2 g3 n : Nat} (hB : w.heap.size ≤ b ∧ w.heap.size ≤ g0 ∧ w.heap.size ≤ g1 ∧ w.heap.size ≤ g2 ∧ w.heap.size ≤ g3)
    (dev : W.heap[b]? = some (.cells #[.slice (some ⟨g0, 0, none⟩) n n, .slice (some ⟨g1, 0, none⟩) n n, .slice (some ⟨g2, 0, none⟩) n n, .slice (some ⟨g3, 0, none⟩) n n, .slice none 0 0, .int .i64 0, .int .i64 (-1), .int .i64 0] 77 (0, 0)))
    (c0 : W.heap[g0]? = some (.cells (blk .u64 (List.replicate n 0)) 22 (0, 0))) (c1 : W.heap[g1]? = some (.cells (blk .u64 (List.replicate n 0)) 22 (0, 0))) (c2 : W.heap[g2]? = some (.cells (blk .u64 (List.replicate n 0)) 22 (0, 0))) (c3 : W.heap[g3]? = some (.cells (blkB (List.replicate n false)) 4 (0, 0)))
    (ne : b ≠ g0 ∧ b ≠ g1 ∧ b ≠ g2 ∧ b ≠ g3 ∧ g0 ≠ g1 ∧ g0 ≠ g2 ∧ g0 ≠ g3 ∧ g1 ≠ g2 ∧ g1 ≠ g3 ∧ g2 ≠ g3) : RDev W b (Pm.new n) (fun k => w.heap.size ≤ k ∧ k < W.heap.size) g0 g1 g2 g3 none 0 := by
  have lt : ∀ {k : Nat} {o : Obj}, W.heap[k]? = some o → k < W.heap.size := fun h => (Array.getElem?_eq_some_iff.1 h).1
  have e0 : Pm.lastL (Pm.new n).ws = List.replicate n 0 := by simp [Pm.lastL, Pm.new, Pm.still]
  have e1 : Pm.storedL (Pm.new n).ws = List.replicate n 0 := by simp [Pm.storedL, Pm.new, Pm.still]
  have e2 : sentL (Pm.new n).ws = List.replicate n 0 := by simp [sentL, Pm.new, Pm.still]
  have e3 : flushL (Pm.new n).ws = List.replicate n false := by simp [flushL, Pm.new, Pm.still]
  have el : (Pm.new n).ws.length = n := by simp [Pm.new]
  refine ⟨?_, ?_, ?_, ?_, ?_, ⟨rfl, .inl rfl⟩, .inl rfl, ⟨⟨hB.1, lt dev⟩, ⟨hB.2.1, lt c0⟩, ⟨hB.2.2.1, lt c1⟩, ⟨hB.2.2.2.1, lt c2⟩, ⟨hB.2.2.2.2, lt c3⟩⟩, ne, Pm.new_ok n⟩
  · rw [el]; exact dev
  · rw [e0]; exact c0
  · rw [e1]; exact c1
  · rw [e2]; exact c2
  · rw [e3]; exact c3

theorem heap_at (w : World) (o : Obj) (k : Nat) (h : k = w.heap.size) : (w.alloc o).heap[k]? = some o := by subst h; exact heap_alloc_new w o
theorem heap_down (w : World) (o : Obj) (k : Nat) (h : k < w.heap.size) : (w.alloc o).heap[k]? = w.heap[k]? := Below.heap_alloc w o k h

theorem drew_at (w : World) (k : Nat) : w.drew.heap[k]? = w.heap[k]? := rfl

/-- .. as its making leaves it. -/
theorem rdev_fresh {w Y : World} {b g0 g1 g2 g3 n : Nat} (hb : b = Y.heap.size) (hB : w.heap.size ≤ b ∧ w.heap.size ≤ g0 ∧ w.heap.size ≤ g1 ∧ w.heap.size ≤ g2 ∧ w.heap.size ≤ g3)
    (c0 : Y.heap[g0]? = some (.cells (blk .u64 (List.replicate n 0)) 22 (0, 0))) (c1 : Y.heap[g1]? = some (.cells (blk .u64 (List.replicate n 0)) 22 (0, 0))) (c2 : Y.heap[g2]? = some (.cells (blk .u64 (List.replicate n 0)) 22 (0, 0))) (c3 : Y.heap[g3]? = some (.cells (blkB (List.replicate n false)) 4 (0, 0)))
    (ne : g0 ≠ g1 ∧ g0 ≠ g2 ∧ g0 ≠ g3 ∧ g1 ≠ g2 ∧ g1 ≠ g3 ∧ g2 ≠ g3) :
    RDev ((Y.alloc (.cells #[.slice (some ⟨g0, 0, none⟩) n n, .slice (some ⟨g1, 0, none⟩) n n, .slice (some ⟨g2, 0, none⟩) n n, .slice (some ⟨g3, 0, none⟩) n n, .slice none 0 0, .int .i64 0, .int .i64 (-1), .int .i64 0] 77)).drew) b (Pm.new n)
      (fun k => w.heap.size ≤ k ∧ k < ((Y.alloc (.cells #[.slice (some ⟨g0, 0, none⟩) n n, .slice (some ⟨g1, 0, none⟩) n n, .slice (some ⟨g2, 0, none⟩) n n, .slice (some ⟨g3, 0, none⟩) n n, .slice none 0 0, .int .i64 0, .int .i64 (-1), .int .i64 0] 77)).drew).heap.size) g0 g1 g2 g3 none 0 := by
  have lt : ∀ {k : Nat} {o : Obj}, Y.heap[k]? = some o → k < Y.heap.size := fun h => (Array.getElem?_eq_some_iff.1 h).1
  have l0 := lt c0
  have l1 := lt c1
  have l2 := lt c2
  have l3 := lt c3
  subst hb
  refine rdev_made hB ?_ ?_ ?_ ?_ ?_ (by omega)
  · rw [drew_at]; exact heap_alloc_new _ _
  · rw [drew_at, heap_down _ _ _ l0]; exact c0
  · rw [drew_at, heap_down _ _ _ l1]; exact c1
  · rw [drew_at, heap_down _ _ _ l2]; exact c2
  · rw [drew_at, heap_down _ _ _ l3]; exact c3

theorem chain4 (w : World) (A B C D : Obj) : ((((w.alloc A).alloc B).alloc C).alloc D).heap[w.heap.size]? = some A ∧ ((((w.alloc A).alloc B).alloc C).alloc D).heap[w.heap.size + 1]? = some B ∧
    ((((w.alloc A).alloc B).alloc C).alloc D).heap[w.heap.size + 1 + 1]? = some C ∧ ((((w.alloc A).alloc B).alloc C).alloc D).heap[w.heap.size + 1 + 1 + 1]? = some D := by
  refine ⟨?_, ?_, ?_, ?_⟩
  · rw [heap_down _ _ _ (by simp only [World.size_alloc]; omega), heap_down _ _ _ (by simp only [World.size_alloc]; omega), heap_down _ _ _ (by simp only [World.size_alloc]; omega), heap_at _ _ _ rfl]
  · rw [heap_down _ _ _ (by simp only [World.size_alloc]; omega), heap_down _ _ _ (by simp only [World.size_alloc]; omega), heap_at _ _ _ (by simp only [World.size_alloc])]
  · rw [heap_down _ _ _ (by simp only [World.size_alloc]; omega), heap_at _ _ _ (by simp only [World.size_alloc])]
  · rw [heap_at _ _ _ (by simp only [World.size_alloc])]

set_option maxHeartbeats 8000000 in
theorem rnew_any (w : World) (n : Nat) (hn : n ≤ 4096) :
    Calls Try.prog 31 #[.int .i64 n] w fun e w' => ∃ b F g0 g1 g2 g3, e = .returned (.pointer (some ⟨b, 0, none⟩)) ∧ RDev w' b (Pm.new (8 * n)) F g0 g1 g2 g3 none 0 ∧ (∀ k, F k → w.heap.size ≤ k ∧ k < w'.heap.size) ∧ Below w.heap.size w w' := by
  have hmk := fun W => make_u64 (8 * n) (by omega) W (by omega)
  have hmb := fun W => make_bools (8 * n) (by omega) W
  rw [show ((8 * n : Nat) : Int) = 8 * (n : Int) by omega] at hmk hmb
  go_enter Try.func31, Try.ntmps31
  go_wp2_with fail
  go_region_with (fail)
  all_goals
    go_wp2_with fail
    go_ret
    refine ⟨_, _, _, _, _, _, rfl, rdev_fresh (w := w) ?hb ?hB ?c0 ?c1 ?c2 ?c3 ?ne, fun k h => h, ?bel⟩
    case hb => simp
    case c0 => first | exact (chain4 _ _ _ _ _).1 | exact (chain4 _ _ _ _ _).2.1 | exact (chain4 _ _ _ _ _).2.2.1 | exact (chain4 _ _ _ _ _).2.2.2
    case c1 => first | exact (chain4 _ _ _ _ _).1 | exact (chain4 _ _ _ _ _).2.1 | exact (chain4 _ _ _ _ _).2.2.1 | exact (chain4 _ _ _ _ _).2.2.2
    case c2 => first | exact (chain4 _ _ _ _ _).1 | exact (chain4 _ _ _ _ _).2.1 | exact (chain4 _ _ _ _ _).2.2.1 | exact (chain4 _ _ _ _ _).2.2.2
    case c3 => first | exact (chain4 _ _ _ _ _).1 | exact (chain4 _ _ _ _ _).2.1 | exact (chain4 _ _ _ _ _).2.2.1 | exact (chain4 _ _ _ _ _).2.2.2
    case hB => omega
    case ne => omega
    case bel => exact ((((((Below.refl _ w).alloc (Nat.le_refl _) _).alloc (by simp) _).alloc (by simp; omega) _).alloc (by simp; omega) _).alloc (by simp; omega) _).drew
end Go.Proofs.Ytnaenokegomoeaa
