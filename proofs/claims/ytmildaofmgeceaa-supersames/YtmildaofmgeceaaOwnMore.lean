/-
  A slice that the call itself has made by appending: more.
-/
import Derived.Test.YtmildaofmgeceaaGround
namespace Go.Proofs.Ytmildaofmgeceaa
set_option linter.unusedVariables false
set_option linter.unusedSimpArgs false
open Go.RowKit

theorem heap_set_far {w : World} {g i k : Nat} {u : Value} (h : k ≠ g) : (w.setCell ⟨g, i, none⟩ u).heap[k]? = w.heap[k]? := Below.heap_setCell w _ u k h
theorem own_base {w : World} {B B' : Nat} {E : TypeId} {z : Nat} {v : Value} {n : Nat} {xs : List Value} (h : w.ownsRow B E z v n xs) (hB : B' ≤ B) : w.ownsRow B' E z v n xs := by
  obtain ⟨hl, h⟩ := h
  refine ⟨hl, ?_⟩
  rcases h with h | ⟨g', cap, cur, hv, hB', hrest⟩
  · exact .inl h
  · exact .inr ⟨g', cap, cur, hv, Nat.le_trans hB hB', hrest⟩

theorem own_set {w : World} {B : Nat} {E : TypeId} {v : Value} {n : Nat} {xs : List Value} {g i : Nat} {u : Value} (h : w.ownsRow B E 1 v n xs) (hg : g < B) : (w.setCell ⟨g, i, none⟩ u).ownsRow B E 1 v n xs := by
  obtain ⟨hl, h⟩ := h
  refine ⟨hl, ?_⟩
  rcases h with h | ⟨g', cap, cur, hv, hB, hg', hrest⟩
  · exact .inl h
  · exact .inr ⟨g', cap, cur, hv, hB, by rw [heap_set_far (by omega)]; exact hg', hrest⟩

/-- a list of one's own as an argument. -/
theorem arg_of_own {w : World} {B : Nat} {T : TypeId} {v : Value} {L : List Int} (h : w.ownsRow B T 1 v L.length (L.map (Value.int .i64))) (hw : ∀ x ∈ L, (Lit.int .i64 x).wf = true) : ∃ a cap, v = .slice a L.length cap ∧ Arg .i64 w a L.length cap L ∧ (0 < L.length → ∀ x, a = some x → B ≤ x.block) := by
  rcases h.2 with ⟨hv, h0⟩ | ⟨g, cap, cur, hv, hB, hg, hle, hmax, hcs, htake⟩
  · have hL : L = [] := List.eq_nil_of_length_eq_zero h0
    subst hL
    exact ⟨none, 0, hv, ⟨Nat.le_refl _, Nat.zero_le _, ⟨rfl, .inl rfl⟩, hw, .inl rfl⟩, fun h => absurd h (by decide)⟩
  · obtain ⟨a', cap', hv', _, _, _, hrow⟩ := row_of_own h
    rw [hv] at hv'
    cases hv'
    exact ⟨_, cap, hv, ⟨hle, hmax, hrow, hw, .inr ⟨g, 0, rfl⟩⟩, fun _ x hx => by cases hx; exact hB⟩
theorem own_block_ne {w : World} {B : Nat} {e : TypeId} {z n : Nat} {v : Value} {xs : List Value} (h : w.ownsRow B e z v n xs) {g : Nat} (hg : g < B) : v.ownBlock ≠ some g := by
  rcases h.2 with ⟨rfl, _⟩ | ⟨k, c, cur, rfl, hk, _⟩
  · simp [Value.ownBlock]
  · simp [Value.ownBlock]
    omega
theorem info_int64 : (Try.prog.info? 3).map (fun i => (i.zero, i.size, i.bytes)) = some (some (.int .i64 0), 1, 8) := by kernel_rfl
theorem setRow_far {w : World} {g k : Nat} {cs : Array Value} (h : k ≠ g) : (w.setRow g cs).heap[k]? = w.heap[k]? := by
  simp [World.setRow, Array.getElem?_modify, Ne.symm h]
end Go.Proofs.Ytmildaofmgeceaa
