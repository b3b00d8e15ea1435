/-
  A Fenced (an integer, eight words, acts, integers) that came in, opened.
-/
import Derived.Test.YtjkiehfjbldkkaaPmLawK
import Derived.Test.YtjkiehfjbldkkaaActs
namespace Go.Proofs.Ytjkiehfjbldkkaa
set_option linter.unusedVariables false
set_option linter.unusedSimpArgs false
open Go.ChangeShapes Go.WideShapes Go.ChangeAt Go.RowKit

/-- a slice of acts out of one cell. -/
theorem acts_cell {H : Type} {enc : TypeId × Value → H} {w : World} {base : Nat} {held : Bool} {fuel : Nat} {x : DataW H × List MemPlace} {v : Value}
    (h : DataW.trod enc Try.prog w base (fun _ => true) held fuel 22 [v] = some x) : ∃ a len cap xs, v = .slice a len cap ∧ Acts w a len cap xs := by
  have h' := h
  rcases Go.Deep.open_slice Try.underlying22 h with ⟨hcs, _⟩ | ⟨a', len', cap', m, n, D, Pl, hcs, _⟩
  · simp at hcs
    subst hcs
    obtain ⟨xs, hx⟩ := acts_of (a := none) (len := 0) (cap := 0) Try.underlying22 Try.underlying37 rfl rfl rfl rfl (by kernel_rfl) (by kernel_rfl) (by kernel_rfl) (by kernel_rfl) (by kernel_rfl) Try.underlying3 Try.underlying3 Try.underlying32 Try.underlying35 Try.underlying3 (by kernel_rfl) h'
    exact ⟨_, _, _, xs, rfl, hx⟩
  · simp at hcs
    subst hcs
    obtain ⟨xs, hx⟩ := acts_of (a := some a') (len := len') (cap := cap') Try.underlying22 Try.underlying37 rfl rfl rfl rfl (by kernel_rfl) (by kernel_rfl) (by kernel_rfl) (by kernel_rfl) (by kernel_rfl) Try.underlying3 Try.underlying3 Try.underlying32 Try.underlying35 Try.underlying3 (by kernel_rfl) h'
    exact ⟨_, _, _, xs, rfl, hx⟩
theorem ints_cell {H : Type} {enc : TypeId × Value → H} {w : World} {base : Nat} {held : Bool} {fuel : Nat} {x : DataW H × List MemPlace} {v : Value}
    (h : DataW.trod enc Try.prog w base (fun _ => true) held fuel 35 [v] = some x) : ∃ a len cap l, v = .slice a len cap ∧ Arg .i64 w a len cap l := by
  rcases open_ints Try.underlying35 Try.underlying3 (by kernel_rfl) h with ⟨hcs, _⟩ | ⟨a', len', cap', zs, hcs, hb', hl', hm', hz, _, hcell, hwz⟩
  · simp at hcs
    subst hcs
    exact ⟨none, 0, 0, _, rfl, arg_of (zs := []) (.inl ⟨rfl, rfl, rfl, rfl⟩)⟩
  · simp at hcs
    subst hcs
    exact ⟨some a', len', cap', _, rfl, arg_of (zs := zs) (.inr ⟨a', rfl, hl', hm', by simpa using hz, hcell, hwz⟩)⟩

set_option maxRecDepth 100000 in
theorem fenced_of {H : Type} {enc : TypeId × Value → H} {w : World} {base : Nat} {held : Bool} {fuel : Nat} {cs : List Value} {x : DataW H × List MemPlace}
    (h : DataW.trod enc Try.prog w base (fun _ => true) held fuel 55 cs = some x) : ∃ n v0 v1 v2 v3 v4 v5 v6 v7 a len cap xs p pl pc l,
      cs = [.int .i64 n, .int .u64 v0, .int .u64 v1, .int .u64 v2, .int .u64 v3, .int .u64 v4, .int .u64 v5, .int .u64 v6, .int .u64 v7, .slice a len cap, .slice p pl pc] ∧ (Lit.int .i64 n).wf = true ∧ (∀ v ∈ [v0, v1, v2, v3, v4, v5, v6, v7], (Lit.int .u64 v).wf = true) ∧ Acts w a len cap xs ∧ Arg .i64 w p pl pc l := by
  obtain ⟨ys, m, _, _, hlen, hyl, hy⟩ := DataW.trod_struct Try.underlying55 h
  have hyl' : ys.length = 4 := hyl
  have g0 : DataW.trod enc Try.prog w base (fun _ => true) held m 3 ((cs.drop 0).take (Try.prog.cellsOf 3)) = ys[0]? := hy 0 _ rfl
  have g1 : DataW.trod enc Try.prog w base (fun _ => true) held m 53 ((cs.drop 1).take (Try.prog.cellsOf 53)) = ys[1]? := hy 1 _ rfl
  have g2 : DataW.trod enc Try.prog w base (fun _ => true) held m 22 ((cs.drop 9).take (Try.prog.cellsOf 22)) = ys[2]? := hy 2 _ rfl
  have g3 : DataW.trod enc Try.prog w base (fun _ => true) held m 35 ((cs.drop 10).take (Try.prog.cellsOf 35)) = ys[3]? := hy 3 _ rfl
  have ct : Try.prog.cellsOf 55 = 11 := by kernel_rfl
  have k3 : Try.prog.cellsOf 3 = 1 := by kernel_rfl
  have k53 : Try.prog.cellsOf 53 = 8 := by kernel_rfl
  have k22 : Try.prog.cellsOf 22 = 1 := by kernel_rfl
  have k35 : Try.prog.cellsOf 35 = 1 := by kernel_rfl
  have k32 : Try.prog.cellsOf 32 = 1 := by kernel_rfl
  rw [ct] at hlen
  rw [k3, List.getElem?_eq_getElem (by omega)] at g0
  rw [k53, List.getElem?_eq_getElem (by omega)] at g1
  rw [k22, List.getElem?_eq_getElem (by omega)] at g2
  rw [k35, List.getElem?_eq_getElem (by omega)] at g3
  match cs, hlen with
  | [u0, u1, u2, u3, u4, u5, u6, u7, u8, u9, u10], _ =>
    obtain ⟨n, en, _, wn⟩ := DataW.trod_int Try.underlying3 g0
    simp at en
    subst en
    simp only [List.drop_succ_cons, List.drop_zero, List.take_succ_cons, List.take_zero] at g1 g2 g3
    obtain ⟨a, len, cap, xs, rfl, hA⟩ := acts_cell g2
    obtain ⟨p, pl, pc, l, rfl, hP⟩ := ints_cell g3
    obtain ⟨zs, m', _, _, _, hzl, hz⟩ := DataW.trod_array Try.underlying53 g1
    rw [k32] at hz
    have one : ∀ (i : Nat) (v : Value), i < 8 → [u1, u2, u3, u4, u5, u6, u7, u8][i]? = some v → ∃ c, v = .int .u64 c ∧ (Lit.int .u64 c).wf = true := fun i v hi hv => by
      have q := hz i hi
      rw [Nat.mul_one, List.getElem?_eq_getElem (by omega)] at q
      obtain ⟨c, ec, _, wc⟩ := DataW.trod_int Try.underlying32 q
      have e2 : (([u1, u2, u3, u4, u5, u6, u7, u8].drop i).take 1)[0]? = some (.int .u64 c) := by rw [ec]; rfl
      rw [List.getElem?_take, if_pos (by decide), List.getElem?_drop, Nat.add_zero, hv] at e2
      exact ⟨c, Option.some.inj e2, wc⟩
    obtain ⟨b1, rfl, w1⟩ := one 0 u1 (by decide) rfl
    obtain ⟨b2, rfl, w2⟩ := one 1 u2 (by decide) rfl
    obtain ⟨b3, rfl, w3⟩ := one 2 u3 (by decide) rfl
    obtain ⟨b4, rfl, w4⟩ := one 3 u4 (by decide) rfl
    obtain ⟨b5, rfl, w5⟩ := one 4 u5 (by decide) rfl
    obtain ⟨b6, rfl, w6⟩ := one 5 u6 (by decide) rfl
    obtain ⟨b7, rfl, w7⟩ := one 6 u7 (by decide) rfl
    obtain ⟨b8, rfl, w8⟩ := one 7 u8 (by decide) rfl
    refine ⟨n, b1, b2, b3, b4, b5, b6, b7, b8, a, len, cap, xs, p, pl, pc, l, rfl, wn, fun v hv => ?_, hA, hP⟩
    simp only [List.mem_cons, List.not_mem_nil, or_false] at hv
    rcases hv with rfl | rfl | rfl | rfl | rfl | rfl | rfl | rfl
    all_goals assumption
end Go.Proofs.Ytjkiehfjbldkkaa
