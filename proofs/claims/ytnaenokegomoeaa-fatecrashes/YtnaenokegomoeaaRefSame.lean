/-
  The document's Same (layer 5): two lists of fates that are alike.
-/
import Derived.Test.YtnaenokegomoeaaRefDevH
namespace Go.Proofs.Ytnaenokegomoeaa
set_option linter.unusedVariables false
set_option linter.unusedSimpArgs false
open Go.RowKit

/-- a slice of fates. -/
def FRow (w : World) (a : Option Addr) (fs : List Pm.F) : Prop := fs.length = 0 ∨ ∃ g off, a = some ⟨g, off, none⟩ ∧ g < w.heap.size ∧
  ∀ i f, fs[i]? = some f → w.cell? ⟨g, off + i * 5, none⟩ = some (.int .i64 f.at') ∧ w.cell? ⟨g, off + i * 5 + 1, none⟩ = some (.int .u64 f.lasts) ∧ w.cell? ⟨g, off + i * 5 + 2, none⟩ = some (.bool f.flushed) ∧ w.cell? ⟨g, off + i * 5 + 3, none⟩ = some (.int .u64 f.sent) ∧ w.cell? ⟨g, off + i * 5 + 4, none⟩ = some (.int .u64 f.stored)
theorem FRow.below {w w' : World} {a : Option Addr} {fs : List Pm.F} (h : FRow w a fs) (hb : Below w.heap.size w w') : FRow w' a fs := by
  rcases h with h | ⟨g, off, e, hg, hc⟩
  · exact .inl h
  · refine .inr ⟨g, off, e, Nat.lt_of_lt_of_le hg hb.size, fun i f hi => ?_⟩
    obtain ⟨q0, q1, q2, q3, q4⟩ := hc i f hi
    exact ⟨(hb.cell (p := ⟨g, _, none⟩) hg).trans q0, (hb.cell (p := ⟨g, _, none⟩) hg).trans q1, (hb.cell (p := ⟨g, _, none⟩) hg).trans q2, (hb.cell (p := ⟨g, _, none⟩) hg).trans q3, (hb.cell (p := ⟨g, _, none⟩) hg).trans q4⟩
theorem frow_of_own {w : World} {B : Nat} {T : TypeId} {v : Value} {fs : List Pm.F} (h : w.ownsRow B T 5 v fs.length (fateCells fs)) : ∃ a cap, v = .slice a fs.length cap ∧ FRow w a fs := by
  by_cases hp : 0 < fs.length
  · obtain ⟨g, cap, hv, _, _, hg, hc⟩ := fates_row h hp
    refine ⟨_, cap, hv, .inr ⟨g, 0, rfl, hg, fun i f hi => ?_⟩⟩
    simp only [Nat.zero_add]
    exact hc i f hi
  · rcases h.2 with ⟨hv, _⟩ | ⟨g, cap, cur, hv, _⟩
    · exact ⟨none, 0, by rw [show fs.length = 0 by omega]; exact hv, .inl (by omega)⟩
    · exact ⟨_, cap, hv, .inl (by omega)⟩

end Go.Proofs.Ytnaenokegomoeaa
