/-
  Layer 10's statements: a Chart that came in, opened.
-/
import Derived.Test.YtilnimdliebfnaaChLawF
import Derived.Deep.Slices
namespace Go.Proofs.Ytilnimdliebfnaa
set_option linter.unusedVariables false
set_option linter.unusedSimpArgs false
open Go.ChangeShapes Go.WideShapes Go.ChangeAt Go.RowKit

theorem octets_join : ∀ (n : Nat) (cs : List Value), cs.length = n → (∀ i, i < n → ∃ x : Int, (cs.drop i).take 1 = [.int .u8 x] ∧ (Lit.int .u8 x).wf = true) → ∃ l : List Int, l.length = n ∧ cs = l.map (Value.int .u8) ∧ Nums.Bytes l
  | 0, cs, hl, _ => ⟨[], rfl, by simpa using hl, fun z hz => absurd hz (by simp)⟩
  | n + 1, c :: cs, hl, h => by
    obtain ⟨x, hx, hw⟩ := h 0 (by omega)
    obtain ⟨l, hll, hc, hb⟩ := octets_join n cs (by simpa using hl) (fun i hi => by
      obtain ⟨y, hy, hwy⟩ := h (i + 1) (by omega)
      exact ⟨y, by simpa using hy, hwy⟩)
    refine ⟨x :: l, by simp [hll], ?_, fun z hz => ?_⟩
    · simp at hx
      rw [hx, hc]
      rfl
    · rcases List.mem_cons.1 hz with rfl | hz
      · have : (0 : Int) ≤ z ∧ z ≤ 255 := by simpa [Lit.wf, IntKind.min, IntKind.max, IntKind.signed, IntKind.bits] using hw
        exact this
      · exact hb z hz

set_option maxRecDepth 100000 in
theorem chart_of {H : Type} {enc : TypeId × Value → H} {w : World} {base : Nat} {held : Bool} {fuel : Nat} {cs : List Value} {x : DataW H × List MemPlace}
    (h : DataW.trod enc Try.prog w base (fun _ => true) held fuel 24 cs = some x) : ∃ (p : Int) (l : List Int), l.length = 48 ∧ cs = .int .i64 p :: l.map (Value.int .u8) ∧ Nums.Bytes l ∧ (Lit.int .i64 p).wf = true := by
  obtain ⟨ys, m, _, _, hlen, hyl, hy⟩ := DataW.trod_struct Try.underlying24 h
  have hyl' : ys.length = 2 := hyl
  have g0 : DataW.trod enc Try.prog w base (fun _ => true) held m 3 ((cs.drop 0).take (Try.prog.cellsOf 3)) = ys[0]? := hy 0 _ rfl
  have g1 : DataW.trod enc Try.prog w base (fun _ => true) held m 22 ((cs.drop 1).take (Try.prog.cellsOf 22)) = ys[1]? := hy 1 _ rfl
  have ct : Try.prog.cellsOf 24 = 49 := by kernel_rfl
  have ka : Try.prog.cellsOf 22 = 48 := by kernel_rfl
  have ki : Try.prog.cellsOf 3 = 1 := by kernel_rfl
  have ks : Try.prog.cellsOf 5 = 1 := by kernel_rfl
  rw [ct] at hlen
  rw [ki, List.drop_zero, List.getElem?_eq_getElem (by omega)] at g0
  rw [ka, List.take_of_length_le (by simp; omega), List.getElem?_eq_getElem (by omega)] at g1
  obtain ⟨p, e0, _, wp⟩ := DataW.trod_int Try.underlying3 g0
  obtain ⟨zs, m', _, _, _, hzl, hz⟩ := DataW.trod_array Try.underlying22 g1
  obtain ⟨l, hll, hc, hb⟩ := octets_join 48 (cs.drop 1) (by simp; omega) fun i hi => by
    have h1 := hz i hi
    rw [ks, Nat.mul_one, List.getElem?_eq_getElem (by omega)] at h1
    obtain ⟨x, e, _, hx⟩ := DataW.trod_int Try.underlying5 h1
    exact ⟨x, e, hx⟩
  refine ⟨p, l, hll, ?_, hb, wp⟩
  rw [← List.take_append_drop 1 cs, e0, hc]
  rfl
end Go.Proofs.Ytilnimdliebfnaa
