/-
  Octets at the head of a block, as an argument.
-/
import Derived.Test.YtmildaofmgeceaaGround
namespace Go.Proofs.Ytmildaofmgeceaa
set_option linter.unusedVariables false
set_option linter.unusedSimpArgs false
open Go.RowKit

theorem wfu8 {x : Int} (h : 0 ≤ x ∧ x ≤ 255) : (Lit.int .u8 x).wf = true := by
  simpa [Lit.wf, IntKind.min, IntKind.max, IntKind.signed, IntKind.bits] using h
theorem lt_of_heap {w : World} {g : Nat} {o : Obj} (h : w.heap[g]? = some o) : g < w.heap.size := (Array.getElem?_eq_some_iff.1 h).1
/-- octets that lie at the head of a block, as an argument. -/
theorem arg_tail {w : World} {g c : Nat} {zs : List Int} {tail : List Value} {T : TypeId} (h : w.heap[g]? = some (.cells (zs.map (Value.int .u8) ++ tail).toArray T (0, 0))) (hz : Nums.Bytes zs) {n : Nat} (hn : zs.length = n) (hc : n ≤ c) (hm : c ≤ maxLen) : Arg .u8 w (some ⟨g, 0, none⟩) n c zs := by
  refine ⟨hc, hm, ⟨hn, .inr ⟨g, 0, rfl, lt_of_heap h, fun i hi => ?_⟩⟩, fun z hzz => wfu8 (hz z hzz), .inr ⟨g, 0, rfl⟩⟩
  simp [World.cell?, h, List.getElem?_append, show i < zs.length by omega]
end Go.Proofs.Ytmildaofmgeceaa
