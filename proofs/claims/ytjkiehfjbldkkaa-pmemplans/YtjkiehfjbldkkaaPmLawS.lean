/-
  Layer 5's statements: what a device of one's own answers.
-/
import Derived.Test.YtjkiehfjbldkkaaPmLawB
import Derived.Deep.RegionHeldLaw
import Derived.Deep.CutRange
namespace Go.Proofs.Ytjkiehfjbldkkaa
set_option linter.unusedVariables false
set_option linter.unusedSimpArgs false
open Go.RowKit

theorem POwn.image {B : Nat} {w : World} {b : Nat} {s : Pm.D} (h : POwn B w b s) (hm : s.ws.length ≤ 40000) :
    Calls Try.prog 21 #[.pointer (some ⟨b, 0, none⟩)] w fun e w' => ∃ a cap, e = .returned (.slice a (8 * s.ws.length) cap) ∧ 8 * s.ws.length ≤ cap ∧ Row .u8 w' a (8 * s.ws.length) (octs (Pm.lastL s.ws)) ∧ Below w.heap.size w w' := by
  obtain ⟨F, h1, _⟩ := h
  exact pimage_any h1 hm
theorem POwn.view {B : Nat} {w : World} {b : Nat} {s : Pm.D} (h : POwn B w b s) (hm : s.ws.length ≤ 40000) :
    Calls Try.prog 23 #[.pointer (some ⟨b, 0, none⟩)] w fun e w' => ∃ a cap, e = .returned (.slice a (8 * s.ws.length) cap) ∧ 8 * s.ws.length ≤ cap ∧ Row .u8 w' a (8 * s.ws.length) (octs (Pm.storedL s.ws)) ∧ Below w.heap.size w w' := by
  obtain ⟨F, h1, _⟩ := h
  exact pview_any h1 hm
theorem POwn.up {B : Nat} {w : World} {b : Nat} {s : Pm.D} (h : POwn B w b s) : Calls Try.prog 17 #[.pointer (some ⟨b, 0, none⟩)] w fun e w' => e = .returned (.bool (s.left != 0)) ∧ w' = w := by
  obtain ⟨F, h1, _⟩ := h
  exact pup_any h1
theorem POwn.steps {B : Nat} {w : World} {b : Nat} {s : Pm.D} (h : POwn B w b s) : Calls Try.prog 16 #[.pointer (some ⟨b, 0, none⟩)] w fun e w' => e = .returned (.int .i64 s.steps) ∧ w' = w := by
  obtain ⟨F, h1, _⟩ := h
  exact psteps_any h1
theorem POwn.fates {B : Nat} {w : World} {b : Nat} {s : Pm.D} (h : POwn B w b s) (hm : s.ws.length ≤ 40000) :
    Calls Try.prog 19 #[.pointer (some ⟨b, 0, none⟩)] w fun e w' => ∃ a cap, e = .returned (.slice a (Pm.fates s).length cap) ∧ (Pm.fates s).length ≤ cap ∧ FRow w' a (Pm.fates s) ∧ Below w.heap.size w w' := by
  obtain ⟨F, h1, _⟩ := h
  exact pfates_any h1 hm

end Go.Proofs.Ytjkiehfjbldkkaa
