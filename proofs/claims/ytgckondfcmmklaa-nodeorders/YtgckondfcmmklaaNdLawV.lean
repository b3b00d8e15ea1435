/-
  Layer 8's statements: an Entry, a Node that came in, opened.
-/
import Derived.Test.YtgckondfcmmklaaNdLawB
import Derived.Test.YtgckondfcmmklaaNdLawD
import Derived.Test.YtgckondfcmmklaaNdLawE
import Derived.Deep.Slices
namespace Go.Proofs.Ytgckondfcmmklaa
set_option linter.unusedVariables false
set_option linter.unusedSimpArgs false
open Go.ChangeShapes Go.WideShapes Go.ChangeAt Go.RowKit

set_option maxRecDepth 100000 in
theorem handle_of {H : Type} {enc : TypeId × Value → H} {w : World} {base : Nat} {held : Bool} {fuel : Nat} {cs : List Value} {x : DataW H × List MemPlace}
    (h : DataW.trod enc Try.prog w base (fun _ => true) held fuel 23 cs = some x) : ∃ s g : Int, cs = [.int .i64 s, .int .i64 g] ∧ (Lit.int .i64 s).wf = true ∧ (Lit.int .i64 g).wf = true := by
  obtain ⟨ys, m, _, _, hlen, hyl, hy⟩ := DataW.trod_struct Try.underlying23 h
  have hyl' : ys.length = 2 := hyl
  have g0 : DataW.trod enc Try.prog w base (fun _ => true) held m 3 ((cs.drop 0).take (Try.prog.cellsOf 3)) = ys[0]? := hy 0 _ rfl
  have g1 : DataW.trod enc Try.prog w base (fun _ => true) held m 3 ((cs.drop 1).take (Try.prog.cellsOf 3)) = ys[1]? := hy 1 _ rfl
  have ct : Try.prog.cellsOf 23 = 2 := by kernel_rfl
  have k0 : Try.prog.cellsOf 3 = 1 := by kernel_rfl
  rw [ct] at hlen
  rw [k0, List.getElem?_eq_getElem (by omega)] at g0
  rw [k0, List.getElem?_eq_getElem (by omega)] at g1
  match cs, hlen with
  | [v0, v1], _ =>
    obtain ⟨s, es, _, ws⟩ := DataW.trod_int Try.underlying3 g0
    obtain ⟨g, eg, _, wg⟩ := DataW.trod_int Try.underlying3 g1
    simp at es eg
    subst es eg
    exact ⟨s, g, rfl, ws, wg⟩

set_option maxRecDepth 100000 in
theorem entry_of {H : Type} {enc : TypeId × Value → H} {w : World} {base : Nat} {held : Bool} {fuel : Nat} {cs : List Value} {x : DataW H × List MemPlace}
    (h : DataW.trod enc Try.prog w base (fun _ => true) held fuel 25 cs = some x) : ∃ s g k v : Int, cs = [.int .i64 s, .int .i64 g, .int .i64 k, .int .i64 v] ∧ (Lit.int .i64 s).wf = true ∧ (Lit.int .i64 g).wf = true ∧ (Lit.int .i64 k).wf = true ∧ (Lit.int .i64 v).wf = true := by
  obtain ⟨ys, m, _, _, hlen, hyl, hy⟩ := DataW.trod_struct Try.underlying25 h
  have hyl' : ys.length = 3 := hyl
  have g0 : DataW.trod enc Try.prog w base (fun _ => true) held m 23 ((cs.drop 0).take (Try.prog.cellsOf 23)) = ys[0]? := hy 0 _ rfl
  have g1 : DataW.trod enc Try.prog w base (fun _ => true) held m 3 ((cs.drop 2).take (Try.prog.cellsOf 3)) = ys[1]? := hy 1 _ rfl
  have g2 : DataW.trod enc Try.prog w base (fun _ => true) held m 3 ((cs.drop 3).take (Try.prog.cellsOf 3)) = ys[2]? := hy 2 _ rfl
  have ct : Try.prog.cellsOf 25 = 4 := by kernel_rfl
  have kh : Try.prog.cellsOf 23 = 2 := by kernel_rfl
  have k0 : Try.prog.cellsOf 3 = 1 := by kernel_rfl
  rw [ct] at hlen
  rw [kh, List.getElem?_eq_getElem (by omega)] at g0
  rw [k0, List.getElem?_eq_getElem (by omega)] at g1
  rw [k0, List.getElem?_eq_getElem (by omega)] at g2
  match cs, hlen with
  | [v0, v1, v2, v3], _ =>
    obtain ⟨s, g, e0, ws, wg⟩ := handle_of g0
    obtain ⟨k, ek, _, wk⟩ := DataW.trod_int Try.underlying3 g1
    obtain ⟨v, ev, _, wv⟩ := DataW.trod_int Try.underlying3 g2
    simp at e0 ek ev
    obtain ⟨rfl, rfl⟩ := e0
    subst ek ev
    exact ⟨s, g, k, v, rfl, ws, wg, wk, wv⟩

theorem ints_in {H : Type} {enc : TypeId × Value → H} {w : World} {base : Nat} {held : Bool} {fuel : Nat} {x : DataW H × List MemPlace} {v : Value}
    (h : DataW.trod enc Try.prog w base (fun _ => true) held fuel 26 [v] = some x) : ∃ a len cap l, v = .slice a len cap ∧ Arg .i64 w a len cap l := by
  rcases open_ints Try.underlying26 Try.underlying3 (by kernel_rfl) h with ⟨hcs, _⟩ | ⟨a', len', cap', zs, hcs, hb', hl', hm', hz, _, hcell, hwz⟩
  · simp at hcs
    subst hcs
    exact ⟨none, 0, 0, _, rfl, arg_of (zs := []) (.inl ⟨rfl, rfl, rfl, rfl⟩)⟩
  · simp at hcs
    subst hcs
    exact ⟨some a', len', cap', _, rfl, arg_of (zs := zs) (.inr ⟨a', rfl, hl', hm', by simpa using hz, hcell, hwz⟩)⟩

set_option maxRecDepth 100000 in
theorem node_of {H : Type} {enc : TypeId × Value → H} {w : World} {base : Nat} {held : Bool} {fuel : Nat} {cs : List Value} {x : DataW H × List MemPlace}
    (h : DataW.trod enc Try.prog w base (fun _ => true) held fuel 28 cs = some x) : ∃ (s g k v : Int) (a : Option Addr) (len cap : Nat) (l : List Int), cs = [.int .i64 s, .int .i64 g, .int .i64 k, .int .i64 v, .slice a len cap] ∧ (Lit.int .i64 s).wf = true ∧ (Lit.int .i64 g).wf = true ∧ (Lit.int .i64 k).wf = true ∧ (Lit.int .i64 v).wf = true ∧ Arg .i64 w a len cap l := by
  obtain ⟨ys, m, _, _, hlen, hyl, hy⟩ := DataW.trod_struct Try.underlying28 h
  have hyl' : ys.length = 2 := hyl
  have g0 : DataW.trod enc Try.prog w base (fun _ => true) held m 25 ((cs.drop 0).take (Try.prog.cellsOf 25)) = ys[0]? := hy 0 _ rfl
  have g1 : DataW.trod enc Try.prog w base (fun _ => true) held m 26 ((cs.drop 4).take (Try.prog.cellsOf 26)) = ys[1]? := hy 1 _ rfl
  have ct : Try.prog.cellsOf 28 = 5 := by kernel_rfl
  have ke : Try.prog.cellsOf 25 = 4 := by kernel_rfl
  have ks : Try.prog.cellsOf 26 = 1 := by kernel_rfl
  rw [ct] at hlen
  rw [ke, List.getElem?_eq_getElem (by omega)] at g0
  rw [ks, List.getElem?_eq_getElem (by omega)] at g1
  match cs, hlen with
  | [v0, v1, v2, v3, v4], _ =>
    obtain ⟨s, g, k, v, e0, ws, wg, wk, wv⟩ := entry_of g0
    obtain ⟨a, len, cap, l, e4, hA⟩ := ints_in g1
    simp at e0
    obtain ⟨rfl, rfl, rfl, rfl⟩ := e0
    subst e4
    exact ⟨s, g, k, v, a, len, cap, l, rfl, ws, wg, wk, wv, hA⟩
end Go.Proofs.Ytgckondfcmmklaa
