/-
  Layer 6's statements: a Fate (an integer, words, a bool) that came in, opened; numbers of an octet.
-/
import Derived.Test.YtnaenokegomoeaaFtLawB
namespace Go.Proofs.Ytnaenokegomoeaa
set_option linter.unusedVariables false
set_option linter.unusedSimpArgs false
open Go.ChangeShapes Go.WideShapes Go.ChangeAt Go.RowKit

set_option maxRecDepth 100000 in
theorem fate_of {H : Type} {enc : TypeId × Value → H} {w : World} {base : Nat} {held : Bool} {fuel : Nat} {cs : List Value} {x : DataW H × List MemPlace}
    (h : DataW.trod enc Try.prog w base (fun _ => true) held fuel 24 cs = some x) : ∃ (A l : Int) (f : Bool) (s t : Int),
      cs = [.int .i64 A, .int .u64 l, .bool f, .int .u64 s, .int .u64 t] ∧ (Lit.int .u64 l).wf = true ∧ (Lit.int .u64 s).wf = true ∧ (Lit.int .u64 t).wf = true := by
  obtain ⟨ys, m, _, _, hlen, hyl, hy⟩ := DataW.trod_struct Try.underlying24 h
  have hyl' : ys.length = 5 := hyl
  have g0 : DataW.trod enc Try.prog w base (fun _ => true) held m 3 ((cs.drop 0).take (Try.prog.cellsOf 3)) = ys[0]? := hy 0 _ rfl
  have g1 : DataW.trod enc Try.prog w base (fun _ => true) held m 22 ((cs.drop 1).take (Try.prog.cellsOf 22)) = ys[1]? := hy 1 _ rfl
  have g2 : DataW.trod enc Try.prog w base (fun _ => true) held m 4 ((cs.drop 2).take (Try.prog.cellsOf 4)) = ys[2]? := hy 2 _ rfl
  have g3 : DataW.trod enc Try.prog w base (fun _ => true) held m 22 ((cs.drop 3).take (Try.prog.cellsOf 22)) = ys[3]? := hy 3 _ rfl
  have g4 : DataW.trod enc Try.prog w base (fun _ => true) held m 22 ((cs.drop 4).take (Try.prog.cellsOf 22)) = ys[4]? := hy 4 _ rfl
  have ct : Try.prog.cellsOf 24 = 5 := by kernel_rfl
  have k0 : Try.prog.cellsOf 3 = 1 := by kernel_rfl
  have k1 : Try.prog.cellsOf 22 = 1 := by kernel_rfl
  have k2 : Try.prog.cellsOf 4 = 1 := by kernel_rfl
  rw [ct] at hlen
  rw [k0, List.getElem?_eq_getElem (by omega)] at g0
  rw [k1, List.getElem?_eq_getElem (by omega)] at g1
  rw [k2, List.getElem?_eq_getElem (by omega)] at g2
  rw [k1, List.getElem?_eq_getElem (by omega)] at g3
  rw [k1, List.getElem?_eq_getElem (by omega)] at g4
  match cs, hlen with
  | [v0, v1, v2, v3, v4], _ =>
    obtain ⟨a, ea, _, wa⟩ := DataW.trod_int Try.underlying3 g0
    obtain ⟨l, el, _, wl⟩ := DataW.trod_int Try.underlying22 g1
    obtain ⟨f, ef, _⟩ := DataW.trod_bool Try.underlying4 g2
    obtain ⟨s, es, _, ws⟩ := DataW.trod_int Try.underlying22 g3
    obtain ⟨t, et, _, wt⟩ := DataW.trod_int Try.underlying22 g4
    simp at ea el ef es et
    subst ea el ef es et
    exact ⟨a, l, f, s, t, rfl, wl, ws, wt⟩

theorem nat_u8 {n : Int} (h : (Lit.int .u8 n).wf = true) : ∃ l : Nat, n = (l : Int) ∧ l ≤ 255 := by
  obtain ⟨h0, h1⟩ := bd_u8 h
  exact ⟨n.toNat, by omega, by omega⟩
theorem fatecounts_own {w : World} {n : Int} (hn : (Lit.int .u8 n).wf = true) {a : Option Addr} {len cap : Nat} {xs : List Ac} (hA : Acts w a len cap xs) :
    Calls Try.prog 4 #[.int .u8 n, .slice a len cap] w fun e w' => e = .returned (.bool true) ∧ Below w.heap.size w w' := by
  obtain ⟨l, rfl, hl⟩ := nat_u8 hn
  exact fatecounts_any l hl hA
end Go.Proofs.Ytnaenokegomoeaa
