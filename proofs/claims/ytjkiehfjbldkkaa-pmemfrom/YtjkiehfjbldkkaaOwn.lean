/-
  A slice of numbers that the call itself has made by appending.
-/
import Derived.Test.YtjkiehfjbldkkaaArgs
namespace Go.Proofs.Ytjkiehfjbldkkaa
set_option linter.unusedVariables false
set_option linter.unusedSimpArgs false
open Go.RowKit

/-- what is owned is read as numbers. -/
theorem row_of_own {k : IntKind} {w : World} {B : Nat} {E : TypeId} {v : Value} {n : Nat} {zs : List Int} (h : w.ownsRow B E 1 v n (zs.map (Value.int k))) :
    ∃ a cap, v = .slice a n cap ∧ n ≤ cap ∧ cap ≤ maxLen ∧ zs.length = n ∧ Row k w a n zs := by
  obtain ⟨hl, h⟩ := h
  have hl' : zs.length = n := by simpa using hl
  rcases h with ⟨rfl, rfl⟩ | ⟨g, cap, cur, rfl, hB, hg, hle, hmax, hcs, htake⟩
  · exact ⟨none, 0, rfl, Nat.le_refl _, Nat.zero_le _, hl', hl', .inl rfl⟩
  · refine ⟨_, cap, rfl, hle, hmax, hl', hl', .inr ⟨g, 0, rfl, (Array.getElem?_eq_some_iff.1 hg).1, fun i hi => ?_⟩⟩
    have e : cur[i]? = (zs.map (Value.int k))[i]? := by
      have h2 : (cur.toList.take (n * 1))[i]? = (zs.map (Value.int k))[i]? := by rw [htake]
      rw [List.getElem?_take, if_pos (by omega)] at h2
      simpa using h2
    simp [World.cell?, hg, e]
    rw [List.getElem?_eq_getElem (by omega)]
    rfl

/-- behind append(out, x): a block below the owned row stands. -/
theorem own_below {w w' : World} {B : Nat} {E : TypeId} {v : Value} {n : Nat} {xs : List Value} (hown : w.ownsRow B E 1 v n xs) (hgrow : w.grownBy w' v.ownBlock) (hB : B ≤ w.heap.size) {w0 : World} {B0 : Nat} (hb : Below B0 w0 w) (h0 : B0 ≤ B) : Below B0 w0 w' := by
  refine hb.grown hgrow (by omega) (fun k hk => ?_)
  rcases hown.2 with ⟨rfl, _⟩ | ⟨g, c, cur, rfl, hBg, _⟩
  · simp [Value.ownBlock] at hk
  · simp [Value.ownBlock] at hk
    omega

/-- what is owned is owned still, where only new memory was made. -/
theorem own_kept {w w' : World} {B : Nat} {E : TypeId} {v : Value} {n : Nat} {xs : List Value} (h : w.ownsRow B E 1 v n xs) (hb : Below w.heap.size w w') : w'.ownsRow B E 1 v n xs := by
  obtain ⟨hl, h⟩ := h
  refine ⟨hl, ?_⟩
  rcases h with h | ⟨g, cap, cur, hv, hB, hg, hrest⟩
  · exact .inl h
  · exact .inr ⟨g, cap, cur, hv, hB, (hb.block g (Array.getElem?_eq_some_iff.1 hg).1).trans hg, hrest⟩

/-- how long a text is (of a value). -/
def strLen : Value → Nat
  | .string s => s.size
  | _ => 0
end Go.Proofs.Ytjkiehfjbldkkaa
