/-
  Layer 12's statements: a Geometry that came in, opened.
-/
import Derived.Test.YtmeeikgebkdmiaaGmLawB
import Derived.Deep.Slices
import Derived.WalkKit
import Derived.ProofKit
import Derived.OpenShut
import Derived.ChangeOld
namespace Go.Proofs.Ytmeeikgebkdmiaa
set_option linter.unusedVariables false
set_option linter.unusedSimpArgs false
open Go.ChangeShapes Go.WideShapes Go.ChangeAt Go.RowKit

set_option maxRecDepth 100000 in
theorem geometry_of {H : Type} {enc : TypeId × Value → H} {w : World} {base : Nat} {held : Bool} {fuel : Nat} {cs : List Value} {x : DataW H × List MemPlace}
    (h : DataW.trod enc Try.prog w base (fun _ => true) held fuel 23 cs = some x) : ∃ (b s g : Int), cs = [.int .i64 b, .int .i64 s, .int .i64 g] ∧ (Lit.int .i64 b).wf = true ∧ (Lit.int .i64 s).wf = true ∧ (Lit.int .i64 g).wf = true := by
  obtain ⟨ys, m, _, _, hlen, hyl, hy⟩ := DataW.trod_struct Try.underlying23 h
  have hyl' : ys.length = 3 := hyl
  have g0 : DataW.trod enc Try.prog w base (fun _ => true) held m 3 ((cs.drop 0).take (Try.prog.cellsOf 3)) = ys[0]? := hy 0 _ rfl
  have g1 : DataW.trod enc Try.prog w base (fun _ => true) held m 3 ((cs.drop 1).take (Try.prog.cellsOf 3)) = ys[1]? := hy 1 _ rfl
  have g2 : DataW.trod enc Try.prog w base (fun _ => true) held m 3 ((cs.drop 2).take (Try.prog.cellsOf 3)) = ys[2]? := hy 2 _ rfl
  have ct : Try.prog.cellsOf 23 = 3 := by kernel_rfl
  have k0 : Try.prog.cellsOf 3 = 1 := by kernel_rfl
  rw [ct] at hlen
  rw [k0, List.getElem?_eq_getElem (by omega)] at g0 g1 g2
  match cs, hlen with
  | [v0, v1, v2], _ =>
    obtain ⟨b, eb, _, wb⟩ := DataW.trod_int Try.underlying3 g0
    obtain ⟨s, es, _, ws⟩ := DataW.trod_int Try.underlying3 g1
    obtain ⟨g, eg, _, wg⟩ := DataW.trod_int Try.underlying3 g2
    simp at eb es eg
    subst eb es eg
    exact ⟨b, s, g, rfl, wb, ws, wg⟩
end Go.Proofs.Ytmeeikgebkdmiaa
