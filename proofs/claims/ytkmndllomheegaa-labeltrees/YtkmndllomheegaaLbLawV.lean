/-
  Layer 11's statements: a Queue, a Dir that came in, opened.
-/
import Derived.Test.YtkmndllomheegaaLbLawE
import Derived.Deep.Slices
namespace Go.Proofs.Ytkmndllomheegaa
set_option linter.unusedVariables false
set_option linter.unusedSimpArgs false
open Go.ChangeShapes Go.WideShapes Go.ChangeAt Go.RowKit

theorem lb_ints_in {H : Type} {enc : TypeId × Value → H} {w : World} {base : Nat} {held : Bool} {fuel : Nat} {x : DataW H × List MemPlace} {v : Value}
    (h : DataW.trod enc Try.prog w base (fun _ => true) held fuel 34 [v] = some x) : ∃ a len cap l, v = .slice a len cap ∧ Arg .i64 w a len cap l := by
  rcases open_ints Try.underlying34 Try.underlying3 (by kernel_rfl) h with ⟨hcs, _⟩ | ⟨a', len', cap', zs, hcs, hb', hl', hm', hz, _, hcell, hwz⟩
  · simp at hcs
    subst hcs
    exact ⟨none, 0, 0, _, rfl, arg_of (zs := []) (.inl ⟨rfl, rfl, rfl, rfl⟩)⟩
  · simp at hcs
    subst hcs
    exact ⟨some a', len', cap', _, rfl, arg_of (zs := zs) (.inr ⟨a', rfl, hl', hm', by simpa using hz, hcell, hwz⟩)⟩

set_option maxRecDepth 100000 in
theorem dir_of {H : Type} {enc : TypeId × Value → H} {w : World} {base : Nat} {held : Bool} {fuel : Nat} {cs : List Value} {x : DataW H × List MemPlace}
    (h : DataW.trod enc Try.prog w base (fun _ => true) held fuel 36 cs = some x) : ∃ (a : Option Addr) (len cap : Nat) (l : List Int), cs = [.slice a len cap] ∧ Arg .i64 w a len cap l := by
  obtain ⟨ys, m, _, _, hlen, hyl, hy⟩ := DataW.trod_struct Try.underlying36 h
  have hyl' : ys.length = 1 := hyl
  have g0 : DataW.trod enc Try.prog w base (fun _ => true) held m 34 ((cs.drop 0).take (Try.prog.cellsOf 34)) = ys[0]? := hy 0 _ rfl
  have ct : Try.prog.cellsOf 36 = 1 := by kernel_rfl
  have ks : Try.prog.cellsOf 34 = 1 := by kernel_rfl
  rw [ct] at hlen
  rw [ks, List.getElem?_eq_getElem (by omega)] at g0
  match cs, hlen with
  | [v0], _ =>
    obtain ⟨a, len, cap, l, e, hA⟩ := lb_ints_in g0
    subst e
    exact ⟨a, len, cap, l, rfl, hA⟩

theorem lb_ints_join : ∀ (n : Nat) (cs : List Value), cs.length = n → (∀ i, i < n → ∃ x : Int, (cs.drop i).take 1 = [.int .i64 x]) → ∃ l : List Int, l.length = n ∧ cs = l.map (Value.int .i64)
  | 0, cs, hl, _ => ⟨[], rfl, by simpa using hl⟩
  | n + 1, c :: cs, hl, h => by
    obtain ⟨x, hx⟩ := h 0 (by omega)
    obtain ⟨l, hll, hc⟩ := lb_ints_join n cs (by simpa using hl) (fun i hi => by
      obtain ⟨y, hy⟩ := h (i + 1) (by omega)
      exact ⟨y, by simpa using hy⟩)
    refine ⟨x :: l, by simp [hll], ?_⟩
    simp at hx
    rw [hx, hc]
    rfl

set_option maxRecDepth 100000 in
theorem queue_of {H : Type} {enc : TypeId × Value → H} {w : World} {base : Nat} {held : Bool} {fuel : Nat} {cs : List Value} {x : DataW H × List MemPlace}
    (h : DataW.trod enc Try.prog w base (fun _ => true) held fuel 25 cs = some x) : ∃ q : Lb.Q, Lb.wfQ q ∧ cs = (queueC q).toList ∧ (Lit.int .i64 q.count).wf = true := by
  obtain ⟨ys, m, _, _, hlen, hyl, hy⟩ := DataW.trod_struct Try.underlying25 h
  have hyl' : ys.length = 3 := hyl
  have g0 : DataW.trod enc Try.prog w base (fun _ => true) held m 9 ((cs.drop 0).take (Try.prog.cellsOf 9)) = ys[0]? := hy 0 _ rfl
  have g1 : DataW.trod enc Try.prog w base (fun _ => true) held m 3 ((cs.drop 1).take (Try.prog.cellsOf 3)) = ys[1]? := hy 1 _ rfl
  have g2 : DataW.trod enc Try.prog w base (fun _ => true) held m 23 ((cs.drop 2).take (Try.prog.cellsOf 23)) = ys[2]? := hy 2 _ rfl
  have ct : Try.prog.cellsOf 25 = 14 := by kernel_rfl
  have ks : Try.prog.cellsOf 9 = 1 := by kernel_rfl
  have ki : Try.prog.cellsOf 3 = 1 := by kernel_rfl
  have kr : Try.prog.cellsOf 23 = 12 := by kernel_rfl
  rw [ct] at hlen
  rw [ks, List.drop_zero, List.getElem?_eq_getElem (by omega)] at g0
  rw [ki, List.getElem?_eq_getElem (by omega)] at g1
  rw [kr, List.take_of_length_le (by simp; omega), List.getElem?_eq_getElem (by omega)] at g2
  obtain ⟨S, e0, _, _⟩ := DataW.trod_string Try.underlying9 g0
  obtain ⟨c, e1, _, wc⟩ := DataW.trod_int Try.underlying3 g1
  obtain ⟨zs, m', _, _, _, hzl, hz⟩ := DataW.trod_array Try.underlying23 g2
  obtain ⟨l, hll, hc⟩ := lb_ints_join 12 (cs.drop 2) (by simp; omega) fun i hi => by
    have h1 := hz i hi
    rw [ki, Nat.mul_one, List.getElem?_eq_getElem (by omega)] at h1
    obtain ⟨x, e, _, _⟩ := DataW.trod_int Try.underlying3 h1
    exact ⟨x, e⟩
  refine ⟨⟨numsOf S, c, l⟩, ⟨numsOf_bytes S, hll⟩, ?_, wc⟩
  unfold queueC
  simp only [str_numsOf]
  rw [← List.take_append_drop 1 cs, e0]
  have e2 : cs.drop 1 = (cs.drop 1).take 1 ++ cs.drop 2 := by
    rw [show cs.drop 2 = (cs.drop 1).drop 1 by rw [List.drop_drop], List.take_append_drop]
  rw [e2, e1, hc]
  rfl
end Go.Proofs.Ytkmndllomheegaa
