/-
  Layer 9's statements: a Seat, a Leaf, a Fan that came in, opened.
-/
import Derived.Test.YtjehcgkmapapbaaPgLawE
import Derived.Deep.Slices
namespace Go.Proofs.Ytjehcgkmapapbaa
set_option linter.unusedVariables false
set_option linter.unusedSimpArgs false
open Go.ChangeShapes Go.WideShapes Go.ChangeAt Go.RowKit

set_option maxRecDepth 100000 in
theorem seat_of {H : Type} {enc : TypeId × Value → H} {w : World} {base : Nat} {held : Bool} {fuel : Nat} {cs : List Value} {x : DataW H × List MemPlace}
    (h : DataW.trod enc Try.prog w base (fun _ => true) held fuel 23 cs = some x) : ∃ (b : Bool) (g n : Int), cs = [.bool b, .int .i64 g, .int .i64 n] ∧ (Lit.int .i64 g).wf = true ∧ (Lit.int .i64 n).wf = true := by
  obtain ⟨ys, m, _, _, hlen, hyl, hy⟩ := DataW.trod_struct Try.underlying23 h
  have hyl' : ys.length = 3 := hyl
  have g0 : DataW.trod enc Try.prog w base (fun _ => true) held m 4 ((cs.drop 0).take (Try.prog.cellsOf 4)) = ys[0]? := hy 0 _ rfl
  have g1 : DataW.trod enc Try.prog w base (fun _ => true) held m 3 ((cs.drop 1).take (Try.prog.cellsOf 3)) = ys[1]? := hy 1 _ rfl
  have g2 : DataW.trod enc Try.prog w base (fun _ => true) held m 3 ((cs.drop 2).take (Try.prog.cellsOf 3)) = ys[2]? := hy 2 _ rfl
  have ct : Try.prog.cellsOf 23 = 3 := by kernel_rfl
  have kb : Try.prog.cellsOf 4 = 1 := by kernel_rfl
  have k0 : Try.prog.cellsOf 3 = 1 := by kernel_rfl
  rw [ct] at hlen
  rw [kb, List.getElem?_eq_getElem (by omega)] at g0
  rw [k0, List.getElem?_eq_getElem (by omega)] at g1
  rw [k0, List.getElem?_eq_getElem (by omega)] at g2
  match cs, hlen with
  | [v0, v1, v2], _ =>
    obtain ⟨b, eb, _⟩ := DataW.trod_bool Try.underlying4 g0
    obtain ⟨g, eg, _, wg⟩ := DataW.trod_int Try.underlying3 g1
    obtain ⟨n, en, _, wn⟩ := DataW.trod_int Try.underlying3 g2
    simp at eb eg en
    subst eb eg en
    exact ⟨b, g, n, rfl, wg, wn⟩

theorem seats_join : ∀ (n : Nat) (cs : List Value), cs.length = 3 * n → (∀ i, i < n → ∃ x, (cs.drop (i * 3)).take 3 = seatC x) → ∃ l : List Pg.Seat, l.length = n ∧ cs = l.flatMap seatC
  | 0, cs, hl, _ => ⟨[], rfl, by simpa using hl⟩
  | n + 1, cs, hl, h => by
    obtain ⟨x, hx⟩ := h 0 (by omega)
    obtain ⟨l, hll, hc⟩ := seats_join n (cs.drop 3) (by simp; omega) (fun i hi => by
      obtain ⟨y, hy⟩ := h (i + 1) (by omega)
      refine ⟨y, ?_⟩
      rw [List.drop_drop, show 3 + i * 3 = (i + 1) * 3 by omega]
      exact hy)
    refine ⟨x :: l, by simp [hll], ?_⟩
    rw [List.flatMap_cons, ← hc, ← hx]
    simp

set_option maxRecDepth 100000 in
theorem leaf_of {H : Type} {enc : TypeId × Value → H} {w : World} {base : Nat} {held : Bool} {fuel : Nat} {cs : List Value} {x : DataW H × List MemPlace}
    (h : DataW.trod enc Try.prog w base (fun _ => true) held fuel 26 cs = some x) : ∃ l : List Pg.Seat, l.length = 7 ∧ cs = l.flatMap seatC := by
  obtain ⟨ys, m, _, _, hlen, hyl, hy⟩ := DataW.trod_struct Try.underlying26 h
  have hyl' : ys.length = 1 := hyl
  have g0 : DataW.trod enc Try.prog w base (fun _ => true) held m 24 ((cs.drop 0).take (Try.prog.cellsOf 24)) = ys[0]? := hy 0 _ rfl
  have ct : Try.prog.cellsOf 26 = 21 := by kernel_rfl
  have ka : Try.prog.cellsOf 24 = 21 := by kernel_rfl
  have ks : Try.prog.cellsOf 23 = 3 := by kernel_rfl
  rw [ct] at hlen
  rw [ka, List.drop_zero, List.take_of_length_le (by omega), List.getElem?_eq_getElem (by omega)] at g0
  obtain ⟨zs, m', _, _, _, hzl, hz⟩ := DataW.trod_array Try.underlying24 g0
  refine seats_join 7 cs hlen fun i hi => ?_
  have h1 := hz i hi
  rw [ks, List.getElem?_eq_getElem (by omega)] at h1
  obtain ⟨b, g, n, e, _, _⟩ := seat_of h1
  exact ⟨⟨b, g, n⟩, e⟩

theorem ints_join : ∀ (n : Nat) (cs : List Value), cs.length = n → (∀ i, i < n → ∃ x : Int, (cs.drop i).take 1 = [.int .i64 x]) → ∃ l : List Int, l.length = n ∧ cs = l.map (Value.int .i64)
  | 0, cs, hl, _ => ⟨[], rfl, by simpa using hl⟩
  | n + 1, c :: cs, hl, h => by
    obtain ⟨x, hx⟩ := h 0 (by omega)
    obtain ⟨l, hll, hc⟩ := ints_join n cs (by simpa using hl) (fun i hi => by
      obtain ⟨y, hy⟩ := h (i + 1) (by omega)
      exact ⟨y, by simpa using hy⟩)
    refine ⟨x :: l, by simp [hll], ?_⟩
    simp at hx
    rw [hx, hc]
    rfl

set_option maxRecDepth 100000 in
theorem fan_of {H : Type} {enc : TypeId × Value → H} {w : World} {base : Nat} {held : Bool} {fuel : Nat} {cs : List Value} {x : DataW H × List MemPlace}
    (h : DataW.trod enc Try.prog w base (fun _ => true) held fuel 40 cs = some x) : ∃ l : List Int, l.length = 16 ∧ cs = l.map (Value.int .i64) := by
  obtain ⟨ys, m, _, _, hlen, hyl, hy⟩ := DataW.trod_struct Try.underlying40 h
  have hyl' : ys.length = 1 := hyl
  have g0 : DataW.trod enc Try.prog w base (fun _ => true) held m 38 ((cs.drop 0).take (Try.prog.cellsOf 38)) = ys[0]? := hy 0 _ rfl
  have ct : Try.prog.cellsOf 40 = 16 := by kernel_rfl
  have ka : Try.prog.cellsOf 38 = 16 := by kernel_rfl
  have ks : Try.prog.cellsOf 3 = 1 := by kernel_rfl
  rw [ct] at hlen
  rw [ka, List.drop_zero, List.take_of_length_le (by omega), List.getElem?_eq_getElem (by omega)] at g0
  obtain ⟨zs, m', _, _, _, hzl, hz⟩ := DataW.trod_array Try.underlying38 g0
  refine ints_join 16 cs hlen fun i hi => ?_
  have h1 := hz i hi
  rw [ks, Nat.mul_one, List.getElem?_eq_getElem (by omega)] at h1
  obtain ⟨x, e, _, _⟩ := DataW.trod_int Try.underlying3 h1
  exact ⟨x, e⟩
end Go.Proofs.Ytjehcgkmapapbaa
