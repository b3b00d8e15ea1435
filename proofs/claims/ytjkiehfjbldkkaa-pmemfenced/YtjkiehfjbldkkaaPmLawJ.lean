/-
  Layer 5's statements: PmemFenced: what it is told (no program is walked here).
-/
import Derived.Test.YtjkiehfjbldkkaaPmLawG
namespace Go.Proofs.Ytjkiehfjbldkkaa
set_option linter.unusedVariables false
set_option linter.unusedSimpArgs false
open Go.RowKit

theorem octs_cut (L : List Int) (a b : Nat) (h : a + b ≤ L.length) : ((octs L).drop (8 * a)).take (8 * b) = octs ((L.drop a).take b) := by
  have e1 : octs L = octs (L.take a) ++ (octs ((L.drop a).take b) ++ octs ((L.drop a).drop b)) := by
    rw [← octs_append, ← octs_append, List.take_append_drop, List.take_append_drop]
  have l1 : (octs (L.take a)).length = 8 * a := by rw [octs_length]; simp; omega
  have l2 : (octs ((L.drop a).take b)).length = 8 * b := by rw [octs_length]; simp; omega
  rw [e1, List.drop_left' l1, List.take_left' l2]

/-- some of a line's words are stored. -/
structure Stor (k : Nat) (vs : List Int) (j : Nat) (s : Pm.D) : Prop where
  len : s.ws.length = 32
  plan : s.plan = []
  left : s.left = -1
  steps : s.steps = j
  has : ∀ i, i < j → ∃ x, s.ws[8 * k + i]? = some x ∧ x.stored = vs.getD i 0
theorem stor_new (k : Nat) (vs : List Int) : Stor k vs 0 (Pm.new (8 * 4)) := ⟨by simp [Pm.new], rfl, rfl, rfl, fun i hi => absurd hi (Nat.not_lt_zero _)⟩
theorem Stor.err {k : Nat} {vs : List Int} {j : Nat} {s : Pm.D} (h : Stor k vs j s) (a : Int) (n : Nat) (h0 : 0 ≤ a) (h1 : a < n) : Pm.err s a n = 0 := by
  unfold Pm.err
  rw [h.left, if_neg (by decide), if_neg (by omega)]
theorem Stor.store {k : Nat} {vs : List Int} {j : Nat} {s : Pm.D} (h : Stor k vs j s) (hj : j < 8) (hk : k < 4) : Stor k vs (j + 1) (Pm.store s ((8 * k + j : Nat) : Int) (vs.getD j 0)) := by
  have he := h.err ((8 * k + j : Nat) : Int) s.ws.length (by omega) (by rw [h.len]; omega)
  have e : Pm.store s ((8 * k + j : Nat) : Int) (vs.getD j 0) = Pm.step s (Pm.put s.ws (8 * k + j) (vs.getD j 0)) := by
    unfold Pm.store
    rw [if_pos he, Int.toNat_natCast]
  have ew : (Pm.step s (Pm.put s.ws (8 * k + j) (vs.getD j 0))).ws = Pm.put s.ws (8 * k + j) (vs.getD j 0) := by
    rw [Pm.step_ws, h.plan, Pm.evict_none]
  rw [e]
  refine ⟨by rw [ew, Pm.put_length]; exact h.len, h.plan, ?_, ?_, fun i hi => ?_⟩
  · show (if 0 < s.left then s.left - 1 else s.left) = -1
    rw [h.left]
    rfl
  · show s.steps + 1 = j + 1
    rw [h.steps]
  · rw [ew]
    by_cases e1 : i = j
    · subst e1
      obtain ⟨x, hx⟩ : ∃ x, s.ws[8 * k + i]? = some x := ⟨_, List.getElem?_eq_getElem (by rw [h.len]; omega)⟩
      exact ⟨_, Pm.put_here hx, rfl⟩
    · rw [Pm.put_at (by omega)]
      exact h.has i (by omega)

/-- a line's words last. -/
structure Lasts (k : Nat) (vs : List Int) (n : Nat) (s : Pm.D) : Prop where
  len : s.ws.length = 32
  plan : s.plan.length ≤ 40
  steps : s.steps ≤ n
  kept : ∀ i, i < 8 → Pm.KeptAt s (8 * k + i) (vs.getD i 0)
theorem Stor.flush {k : Nat} {vs : List Int} {s : Pm.D} (h : Stor k vs 8 s) (hk : k < 4) : Pm.err s k (s.ws.length / 8) = 0 ∧ (Pm.flush s k).ws.length = 32 ∧ (Pm.flush s k).plan = [] ∧ (Pm.flush s k).steps = 9 ∧ Pm.err (Pm.flush s k) 0 1 = 0 ∧ ∀ i, i < 8 → ∃ x, (Pm.flush s k).ws[8 * k + i]? = some x ∧ x.stored = vs.getD i 0 ∧ x.sent = vs.getD i 0 ∧ x.flushed = true := by
  have he := h.err k (s.ws.length / 8) (by omega) (by rw [h.len]; omega)
  have e : Pm.flush s k = Pm.step s (Pm.sendL s.ws k) := by
    unfold Pm.flush
    rw [if_pos he, Int.toNat_natCast]
  have ew : (Pm.step s (Pm.sendL s.ws k)).ws = Pm.sendL s.ws k := by
    rw [Pm.step_ws, h.plan, Pm.evict_none]
  refine ⟨he, ?_, ?_, ?_, ?_, fun i hi => ?_⟩
  · rw [Pm.flush_length]; exact h.len
  · rw [e]; exact h.plan
  · rw [e]; show s.steps + 1 = 9; rw [h.steps]
  · rw [e]
    have e1 : (Pm.step s (Pm.sendL s.ws k)).left = -1 := by
      show (if 0 < s.left then s.left - 1 else s.left) = -1
      rw [h.left]
      rfl
    unfold Pm.err
    rw [e1]
    decide
  · obtain ⟨x, hx, hs⟩ := h.has i hi
    rw [e, ew, Pm.sendL_at (by rw [h.len]; omega) hx, if_pos ⟨by omega, by omega⟩]
    exact ⟨_, rfl, hs, hs, rfl⟩
theorem Stor.fence {k : Nat} {vs : List Int} {s : Pm.D} (h : Stor k vs 8 s) (hk : k < 4) : Lasts k vs 10 (Pm.fence (Pm.flush s k)) := by
  obtain ⟨_, h2, h3, h4, h5, h6⟩ := h.flush hk
  generalize Pm.flush s k = t at *
  have e : Pm.fence t = Pm.step t (t.ws.map Pm.W.fence) := by
    unfold Pm.fence
    rw [if_pos h5]
  have ew : (Pm.step t (t.ws.map Pm.W.fence)).ws = t.ws.map Pm.W.fence := by
    rw [Pm.step_ws, h3, Pm.evict_none]
  refine ⟨by rw [Pm.fence_length]; exact h2, ?_, ?_, fun i hi => ?_⟩
  · rw [e]; show t.plan.length ≤ 40; rw [h3]; simp
  · rw [e]; show t.steps + 1 ≤ 10; omega
  · obtain ⟨x, hx, q1, q2, q3⟩ := h6 i hi
    refine ⟨x.fence, ?_, ?_⟩
    · rw [e, ew, List.getElem?_map, hx]
      rfl
    · unfold Pm.W.fence
      rw [if_pos q3]
      exact ⟨q2, q1, fun e => by cases e⟩
theorem Lasts.act {k : Nat} {vs : List Int} {n : Nat} {s : Pm.D} (h : Lasts k vs n s) (a : Pm.A) (hl : a.l.length ≤ 40) (ha : a.kind % 7 = 0 → a.at' < ((8 * k : Nat) : Int) ∨ ((8 * k + 8 : Nat) : Int) ≤ a.at') : Lasts k vs (n + 1) (Pm.act s a) := by
  refine ⟨by rw [Pm.act_length]; exact h.len, ?_, ?_, fun i hi => Pm.kept_act (h.kept i hi) a (fun e => ?_)⟩
  · rcases act_plan s a with e | e | e
    · rw [e]; exact h.plan
    · rw [e]; exact hl
    · rw [e]; simp
  · have := h.steps
    rcases Pm.act_steps s a with e | e <;> rw [e] <;> omega
  · have := ha e
    omega
theorem Lasts.crash {k : Nat} {vs : List Int} {n : Nat} {s : Pm.D} (h : Lasts k vs n s) (hv : vs.length = 8) (hk : k < 4) (l : List Int) : ((octs (Pm.lastL (Pm.crash s l).ws)).drop (64 * k)).take 64 = octs vs := by
  have hl : (Pm.lastL (Pm.crash s l).ws).length = 32 := by rw [lastL_len]; exact (Pm.crashW_length _ _).trans h.len
  have e := octs_cut (Pm.lastL (Pm.crash s l).ws) (8 * k) 8 (by omega)
  rw [show 8 * (8 * k) = 64 * k by omega, show 8 * 8 = 64 from rfl] at e
  rw [e]
  congr 1
  apply List.ext_getElem?
  intro i
  by_cases hi : i < 8
  · rw [List.getElem?_take, if_pos hi, List.getElem?_drop]
    obtain ⟨x, hx, q1, _, _⟩ := Pm.kept_crash (h.kept i hi) l
    unfold Pm.lastL
    rw [List.getElem?_map, hx, Option.map_some, q1, List.getD_eq_getElem?_getD, List.getElem?_eq_getElem (by omega)]
    rfl
  · rw [List.getElem?_eq_none (by simp; omega), List.getElem?_eq_none (by omega)]
end Go.Proofs.Ytjkiehfjbldkkaa
