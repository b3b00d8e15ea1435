/-
  Layer 13's statements: a Super that came in, opened.
-/
import Derived.Test.YtmildaofmgeceaaSpLawE
import Derived.Deep.Slices
import Derived.WalkKit
import Derived.ProofKit
import Derived.OpenShut
import Derived.ChangeOld
namespace Go.Proofs.Ytmildaofmgeceaa
set_option linter.unusedVariables false
set_option linter.unusedSimpArgs false
open Go.ChangeShapes Go.WideShapes Go.ChangeAt Go.RowKit

set_option maxRecDepth 100000 in
theorem sp_geometry_of {H : Type} {enc : TypeId × Value → H} {w : World} {base : Nat} {held : Bool} {fuel : Nat} {cs : List Value} {x : DataW H × List MemPlace}
    (h : DataW.trod enc Try.prog w base (fun _ => true) held fuel 23 cs = some x) : ∃ (b s g : Int), cs = [.int .i64 b, .int .i64 s, .int .i64 g] ∧ (Lit.int .i64 b).wf = true ∧ (Lit.int .i64 s).wf = true ∧ (Lit.int .i64 g).wf = true := by
  obtain ⟨ys, m, _, _, hlen, hyl, hy⟩ := DataW.trod_struct Try.underlying23 h
  have hyl' : ys.length = 3 := hyl
  have g0 : DataW.trod enc Try.prog w base (fun _ => true) held m 3 ((cs.drop 0).take (Try.prog.cellsOf 3)) = ys[0]? := hy 0 _ rfl
  have g1 : DataW.trod enc Try.prog w base (fun _ => true) held m 3 ((cs.drop 1).take (Try.prog.cellsOf 3)) = ys[1]? := hy 1 _ rfl
  have g2 : DataW.trod enc Try.prog w base (fun _ => true) held m 3 ((cs.drop 2).take (Try.prog.cellsOf 3)) = ys[2]? := hy 2 _ rfl
  have ct : Try.prog.cellsOf 23 = 3 := by kernel_rfl
  have k0 : Try.prog.cellsOf 3 = 1 := by kernel_rfl
  rw [ct] at hlen
  rw [k0, List.getElem?_eq_getElem (by omega)] at g0 g1 g2
  match cs, hlen with
  | [v0, v1, v2], _ =>
    obtain ⟨b, eb, _, wb⟩ := DataW.trod_int Try.underlying3 g0
    obtain ⟨s, es, _, ws⟩ := DataW.trod_int Try.underlying3 g1
    obtain ⟨g, eg, _, wg⟩ := DataW.trod_int Try.underlying3 g2
    simp at eb es eg
    subst eb es eg
    exact ⟨b, s, g, rfl, wb, ws, wg⟩

set_option maxRecDepth 100000 in
theorem tickets_of {H : Type} {enc : TypeId × Value → H} {w : World} {base : Nat} {held : Bool} {fuel : Nat} {cs : List Value} {x : DataW H × List MemPlace}
    (h : DataW.trod enc Try.prog w base (fun _ => true) held fuel 25 cs = some x) : ∃ (b s g t i f : Int), cs = [.int .i64 b, .int .i64 s, .int .i64 g, .int .i64 t, .int .i64 i, .int .i64 f] ∧ ((Lit.int .i64 b).wf = true ∧ (Lit.int .i64 s).wf = true ∧ (Lit.int .i64 g).wf = true) ∧ (Lit.int .i64 t).wf = true ∧ (Lit.int .i64 i).wf = true ∧ (Lit.int .i64 f).wf = true := by
  obtain ⟨ys, m, _, _, hlen, hyl, hy⟩ := DataW.trod_struct Try.underlying25 h
  have hyl' : ys.length = 4 := hyl
  have g0 : DataW.trod enc Try.prog w base (fun _ => true) held m 23 ((cs.drop 0).take (Try.prog.cellsOf 23)) = ys[0]? := hy 0 _ rfl
  have g1 : DataW.trod enc Try.prog w base (fun _ => true) held m 3 ((cs.drop 3).take (Try.prog.cellsOf 3)) = ys[1]? := hy 1 _ rfl
  have g2 : DataW.trod enc Try.prog w base (fun _ => true) held m 3 ((cs.drop 4).take (Try.prog.cellsOf 3)) = ys[2]? := hy 2 _ rfl
  have g3 : DataW.trod enc Try.prog w base (fun _ => true) held m 3 ((cs.drop 5).take (Try.prog.cellsOf 3)) = ys[3]? := hy 3 _ rfl
  have ct : Try.prog.cellsOf 25 = 6 := by kernel_rfl
  have kg : Try.prog.cellsOf 23 = 3 := by kernel_rfl
  have k0 : Try.prog.cellsOf 3 = 1 := by kernel_rfl
  rw [ct] at hlen
  rw [kg, List.getElem?_eq_getElem (by omega)] at g0
  rw [k0, List.getElem?_eq_getElem (by omega)] at g1 g2 g3
  match cs, hlen with
  | [v0, v1, v2, v3, v4, v5], _ =>
    obtain ⟨b, s, g, e0, wb, ws, wg⟩ := sp_geometry_of g0
    obtain ⟨t, et, _, wt⟩ := DataW.trod_int Try.underlying3 g1
    obtain ⟨i, ei, _, wi⟩ := DataW.trod_int Try.underlying3 g2
    obtain ⟨f, ef, _, wf⟩ := DataW.trod_int Try.underlying3 g3
    simp at e0 et ei ef
    obtain ⟨rfl, rfl, rfl⟩ := e0
    subst et ei ef
    exact ⟨b, s, g, t, i, f, rfl, ⟨wb, ws, wg⟩, wt, wi, wf⟩

theorem sp_ints_in {H : Type} {enc : TypeId × Value → H} {w : World} {base : Nat} {held : Bool} {fuel : Nat} {x : DataW H × List MemPlace} {v : Value}
    (h : DataW.trod enc Try.prog w base (fun _ => true) held fuel 26 [v] = some x) : ∃ a len cap l, v = .slice a len cap ∧ Arg .i64 w a len cap l := by
  rcases open_ints Try.underlying26 Try.underlying3 (by kernel_rfl) h with ⟨hcs, _⟩ | ⟨a', len', cap', zs, hcs, hb', hl', hm', hz, _, hcell, hwz⟩
  · simp at hcs
    subst hcs
    exact ⟨none, 0, 0, _, rfl, arg_of (zs := []) (.inl ⟨rfl, rfl, rfl, rfl⟩)⟩
  · simp at hcs
    subst hcs
    exact ⟨some a', len', cap', _, rfl, arg_of (zs := zs) (.inr ⟨a', rfl, hl', hm', by simpa using hz, hcell, hwz⟩)⟩

set_option maxRecDepth 100000 in
theorem super_of {H : Type} {enc : TypeId × Value → H} {w : World} {base : Nat} {held : Bool} {fuel : Nat} {cs : List Value} {x : DataW H × List MemPlace}
    (h : DataW.trod enc Try.prog w base (fun _ => true) held fuel 28 cs = some x) : ∃ (s : Sp.S) (a : Option Addr) (len cap : Nat), cs = (superC s a len cap).toList ∧ Sp.wf s ∧ Arg .i64 w a len cap s.charts := by
  obtain ⟨ys, m, _, _, hlen, hyl, hy⟩ := DataW.trod_struct Try.underlying28 h
  have hyl' : ys.length = 4 := hyl
  have g0 : DataW.trod enc Try.prog w base (fun _ => true) held m 3 ((cs.drop 0).take (Try.prog.cellsOf 3)) = ys[0]? := hy 0 _ rfl
  have g1 : DataW.trod enc Try.prog w base (fun _ => true) held m 25 ((cs.drop 1).take (Try.prog.cellsOf 25)) = ys[1]? := hy 1 _ rfl
  have g2 : DataW.trod enc Try.prog w base (fun _ => true) held m 3 ((cs.drop 7).take (Try.prog.cellsOf 3)) = ys[2]? := hy 2 _ rfl
  have g3 : DataW.trod enc Try.prog w base (fun _ => true) held m 26 ((cs.drop 8).take (Try.prog.cellsOf 26)) = ys[3]? := hy 3 _ rfl
  have ct : Try.prog.cellsOf 28 = 9 := by kernel_rfl
  have kt : Try.prog.cellsOf 25 = 6 := by kernel_rfl
  have ks : Try.prog.cellsOf 26 = 1 := by kernel_rfl
  have k0 : Try.prog.cellsOf 3 = 1 := by kernel_rfl
  rw [ct] at hlen
  rw [kt, List.getElem?_eq_getElem (by omega)] at g1
  rw [ks, List.getElem?_eq_getElem (by omega)] at g3
  rw [k0, List.getElem?_eq_getElem (by omega)] at g0 g2
  match cs, hlen with
  | [v0, v1, v2, v3, v4, v5, v6, v7, v8], _ =>
    obtain ⟨ep, e0, _, w0⟩ := DataW.trod_int Try.underlying3 g0
    obtain ⟨b, s, g, t, i, f, e1, wg, wt, wi, wf⟩ := tickets_of g1
    obtain ⟨di, e2, _, w2⟩ := DataW.trod_int Try.underlying3 g2
    obtain ⟨a, len, cap, l, e3, hA⟩ := sp_ints_in g3
    simp at e0 e1 e2
    obtain ⟨rfl, rfl, rfl, rfl, rfl, rfl⟩ := e1
    subst e0 e2 e3
    exact ⟨⟨ep, b, s, g, t, i, f, di, l⟩, a, len, cap, rfl, ⟨w0, wg, wt, wi, wf, w2⟩, hA⟩
end Go.Proofs.Ytmildaofmgeceaa
