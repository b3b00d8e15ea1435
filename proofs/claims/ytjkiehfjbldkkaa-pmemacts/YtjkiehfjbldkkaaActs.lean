/-
  A slice of acts (two integers, a word, a slice of integers) that came in.
-/
import Derived.Test.YtjkiehfjbldkkaaArgs
import Derived.WalkKit
import Derived.ProofKit
import Derived.OpenShut
import Derived.Deep.Matrix
namespace Go.Proofs.Ytjkiehfjbldkkaa
set_option linter.unusedVariables false
set_option linter.unusedSimpArgs false
open Go.ChangeShapes Go.WideShapes Go.ChangeAt Go.RowKit

/-- an act in memory: its numbers, and where its list lies. -/
structure Ac where
  kind : Int
  at' : Int
  w : Int
  a : Option Addr
  len : Nat
  cap : Nat
  l : List Int

/-- what is known of one act. -/
def Ac.ok (x : Ac) (w : World) : Prop := (Lit.int .i64 x.kind).wf = true ∧ (Lit.int .i64 x.at').wf = true ∧ (Lit.int .u64 x.w).wf = true ∧ Arg .i64 w x.a x.len x.cap x.l
/-- an act's cells. -/
def Ac.cells (x : Ac) : List Value := [.int .i64 x.kind, .int .i64 x.at', .int .u64 x.w, .slice x.a x.len x.cap]
/-- what is known of a slice of acts. -/
def Acts (w : World) (a : Option Addr) (len cap : Nat) (xs : List Ac) : Prop := xs.length = len ∧ len ≤ cap ∧ cap ≤ maxLen ∧ (∀ x ∈ xs, x.ok w) ∧
  (len = 0 ∨ ∃ g off, a = some ⟨g, off, none⟩ ∧ g < w.heap.size ∧ ∀ i x, xs[i]? = some x → w.cell? ⟨g, off + i * 4, none⟩ = some (.int .i64 x.kind) ∧ w.cell? ⟨g, off + i * 4 + 1, none⟩ = some (.int .i64 x.at') ∧ w.cell? ⟨g, off + i * 4 + 2, none⟩ = some (.int .u64 x.w) ∧ w.cell? ⟨g, off + i * 4 + 3, none⟩ = some (.slice x.a x.len x.cap))

theorem Acts.below {w w' : World} {a : Option Addr} {len cap : Nat} {xs : List Ac} (h : Acts w a len cap xs) (hb : Below w.heap.size w w') : Acts w' a len cap xs := by
  obtain ⟨h1, h2, h3, h4, h5⟩ := h
  refine ⟨h1, h2, h3, fun x hx => ⟨(h4 x hx).1, (h4 x hx).2.1, (h4 x hx).2.2.1, (h4 x hx).2.2.2.below hb⟩, ?_⟩
  rcases h5 with h5 | ⟨g, off, e, hg, hc⟩
  · exact .inl h5
  · refine .inr ⟨g, off, e, Nat.lt_of_lt_of_le hg hb.size, fun i x hi => ?_⟩
    obtain ⟨q0, q1, q2, q3⟩ := hc i x hi
    exact ⟨(hb.cell (p := ⟨g, _, none⟩) hg).trans q0, (hb.cell (p := ⟨g, _, none⟩) hg).trans q1, (hb.cell (p := ⟨g, _, none⟩) hg).trans q2, (hb.cell (p := ⟨g, _, none⟩) hg).trans q3⟩

/-- an act out of its cells. -/
theorem ac_of {H : Type} {enc : TypeId × Value → H} {P : Program} {w : World} {base : Nat} {held : Bool} {t q : TypeId} {f0 f1 f2 f3 : Field} {fuel : Nat} {cs : List Value} {x : DataW H × List MemPlace}
    (ht : P.underlying t = some (.struct #[f0, f1, f2, f3])) (o0 : f0.offset = 0) (o1 : f1.offset = 1) (o2 : f2.offset = 2) (o3 : f3.offset = 3) (c0 : P.cellsOf f0.type = 1) (c1 : P.cellsOf f1.type = 1) (c2 : P.cellsOf f2.type = 1) (c3 : P.cellsOf f3.type = 1) (ct : P.cellsOf t = 4)
    (u0 : P.underlying f0.type = some (.int .i64)) (u1 : P.underlying f1.type = some (.int .i64)) (u2 : P.underlying f2.type = some (.int .u64)) (u3 : P.underlying f3.type = some (.slice q)) (uq : P.underlying q = some (.int .i64)) (cq : P.cellsOf q = 1)
    (h : DataW.trod enc P w base (fun _ => true) held fuel t cs = some x) : ∃ y : Ac, cs = y.cells ∧ y.ok w := by
  obtain ⟨ys, m, _, _, hlen, hyl, hy⟩ := DataW.trod_struct ht h
  rw [ct] at hlen
  have g0 := hy 0 f0 rfl
  have g1 := hy 1 f1 rfl
  have g2 := hy 2 f2 rfl
  have g3 := hy 3 f3 rfl
  have hyl' : ys.length = 4 := hyl
  rw [o0, c0, List.getElem?_eq_getElem (by omega)] at g0
  rw [o1, c1, List.getElem?_eq_getElem (by omega)] at g1
  rw [o2, c2, List.getElem?_eq_getElem (by omega)] at g2
  rw [o3, c3, List.getElem?_eq_getElem (by omega)] at g3
  match cs, hlen with
  | [v0, v1, v2, v3], _ =>
    obtain ⟨a, ea, _, wa⟩ := DataW.trod_int u0 g0
    obtain ⟨b, eb, _, wb⟩ := DataW.trod_int u1 g1
    obtain ⟨c, ec, _, wc⟩ := DataW.trod_int u2 g2
    simp at ea eb ec
    subst ea eb ec
    simp only [List.drop_succ_cons, List.drop_zero, List.take_succ_cons, List.take_zero] at g3
    rcases open_ints u3 uq cq g3 with ⟨hcs, _⟩ | ⟨a', len', cap', zs, hcs, hb', hl', hm', hz, _, hcell, hwz⟩
    · simp at hcs
      subst hcs
      exact ⟨⟨a, b, c, none, 0, 0, []⟩, rfl, wa, wb, wc, arg_of (zs := []) (.inl ⟨rfl, rfl, rfl, rfl⟩)⟩
    · simp at hcs
      subst hcs
      exact ⟨⟨a, b, c, some a', len', cap', zs.take len'⟩, rfl, wa, wb, wc, arg_of (zs := zs) (.inr ⟨a', rfl, hl', hm', by simpa using hz, hcell, hwz⟩)⟩

theorem acts_of {H : Type} {enc : TypeId × Value → H} {P : Program} {w : World} {base : Nat} {held : Bool} {t e q : TypeId} {f0 f1 f2 f3 : Field} {fuel : Nat} {x : DataW H × List MemPlace} (ht : P.underlying t = some (.slice e))
    (he : P.underlying e = some (.struct #[f0, f1, f2, f3])) (o0 : f0.offset = 0) (o1 : f1.offset = 1) (o2 : f2.offset = 2) (o3 : f3.offset = 3) (c0 : P.cellsOf f0.type = 1) (c1 : P.cellsOf f1.type = 1) (c2 : P.cellsOf f2.type = 1) (c3 : P.cellsOf f3.type = 1) (ct : P.cellsOf e = 4)
    (u0 : P.underlying f0.type = some (.int .i64)) (u1 : P.underlying f1.type = some (.int .i64)) (u2 : P.underlying f2.type = some (.int .u64)) (u3 : P.underlying f3.type = some (.slice q)) (uq : P.underlying q = some (.int .i64)) (cq : P.cellsOf q = 1)
    {a : Option Addr} {len cap : Nat} (h : DataW.trod enc P w base (fun _ => true) held fuel t (Value.slice a len cap).cells.toList = some x) : ∃ xs, Acts w a len cap xs := by
  rcases Go.Deep.open_slice ht h with ⟨hcs, _⟩ | ⟨a', len', cap', m, n, D, Pl, hcs, hb, hl, hm, hmm, _, hx⟩
  · simp [Value.cells] at hcs
    obtain ⟨rfl, rfl, rfl⟩ := hcs
    exact ⟨[], rfl, Nat.le_refl _, Nat.zero_le _, by simp, .inl rfl⟩
  · simp [Value.cells] at hcs
    obtain ⟨rfl, rfl, rfl⟩ := hcs
    simp only [if_true] at hmm
    subst hmm
    rw [ct] at hx
    have each : ∀ i, i < m → ∃ y : Ac, y.ok w ∧ ∀ j, j < 4 → w.cell? (a'.add (i * 4 + j)) = y.cells[j]? := fun i hi => by
      obtain ⟨cs', h1, h2⟩ := hx i hi
      obtain ⟨y, rfl, hy⟩ := ac_of he o0 o1 o2 o3 c0 c1 c2 c3 ct u0 u1 u2 u3 uq cq h2
      obtain ⟨_, _, h3⟩ := World.cells?_some h1
      refine ⟨y, hy, fun j hj => ?_⟩
      have := h3 j hj
      rwa [Addr.add_add] at this
    have inh : Inhabited Ac := ⟨⟨0, 0, 0, none, 0, 0, []⟩⟩
    obtain ⟨y, hy⟩ := Go.Deep.choose_lt each
    have hget : ∀ i z, ((List.range len).map y)[i]? = some z → i < len ∧ z = y i := fun i z hz => by
      rw [List.getElem?_map] at hz
      obtain ⟨r, hr1, rfl⟩ := Option.map_eq_some_iff.1 hz
      obtain ⟨hlt, hr2⟩ := List.getElem?_eq_some_iff.1 hr1
      rw [List.getElem_range] at hr2
      subst hr2
      exact ⟨by simpa using hlt, rfl⟩
    refine ⟨(List.range len).map y, by simp, hl, hm, fun z hz => ?_, ?_⟩
    · obtain ⟨r, hr1, rfl⟩ := List.mem_map.1 hz
      exact (hy r (by have := List.mem_range.1 hr1; omega)).1
    · by_cases h0 : len = 0
      · exact .inl h0
      · obtain ⟨b, off, spot⟩ := a'
        have hc0 := (hy 0 (by omega)).2 0 (by omega)
        have hs : spot = none := by
          have : (Addr.add ⟨b, off, spot⟩ (0 * 4 + 0)) = ⟨b, off, spot⟩ := by simp [Addr.add]
          rw [this] at hc0
          exact World.cell?_spot hc0
        subst hs
        have ea : ∀ k, (⟨b, off, none⟩ : Addr).add k = ⟨b, off + k, none⟩ := fun k => by unfold Addr.add; split <;> simp_all
        refine .inr ⟨b, off, rfl, ?_, fun i z hi => ?_⟩
        · rw [ea] at hc0
          exact World.block_lt_of_cell? w _ hc0
        · obtain ⟨hil, rfl⟩ := hget i z hi
          have hh := (hy i (by omega)).2
          have q0 := hh 0 (by omega)
          have q1 := hh 1 (by omega)
          have q2 := hh 2 (by omega)
          have q3 := hh 3 (by omega)
          rw [ea, ← Nat.add_assoc] at q0 q1 q2 q3
          exact ⟨q0, q1, q2, q3⟩
end Go.Proofs.Ytjkiehfjbldkkaa
