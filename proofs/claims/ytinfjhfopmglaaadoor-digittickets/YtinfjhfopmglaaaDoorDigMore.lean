/-
  Plain facts on reading digits, worked out below 0: no program is named here.
-/
import Derived.Test.YtinfjhfopmglaaaDoorDigNums
namespace Go.Proofs.YtinfjhfopmglaaaDoor
set_option linter.unusedVariables false
set_option linter.unusedSimpArgs false
namespace Dig

/-- the text of a number from 0 on. -/
def ut (m : Nat) : List Int := if m = 0 then [48] else dg 19 m
theorem ut_zero : ut 0 = [48] := rfl
theorem ut_pos {m : Nat} (h : m ≠ 0) : ut m = dg 19 m := by unfold ut; rw [if_neg h]
theorem ut_digits (m : Nat) : ∀ z ∈ ut m, 48 ≤ z ∧ z ≤ 57 := by
  intro z hz
  unfold ut at hz
  split at hz
  · simp at hz; omega
  · exact dg_digits _ _ z hz
theorem ten19 : (10 : Nat) ^ 19 = 10000000000000000000 := by decide
theorem ut_first {m : Nat} (h : m ≤ 9223372036854775808) : (m = 0 ∧ ut m = [48]) ∨ ∃ z r, ut m = z :: r ∧ 49 ≤ z ∧ z ≤ 57 := by
  by_cases h0 : m = 0
  · subst h0; exact .inl ⟨rfl, rfl⟩
  · rw [ut_pos h0]
    exact .inr (dg_first 19 m (by rw [ten19]; omega) h0)
theorem val_ut {m : Nat} (h : m ≤ 9223372036854775808) : val 0 (ut m) = m := by
  by_cases h0 : m = 0
  · subst h0; rfl
  · rw [ut_pos h0, val_dg 19 m (by rw [ten19]; omega)]
theorem text_ut {n : Int} (h : 0 ≤ n) : text n = ut n.toNat := by
  by_cases h0 : n = 0
  · subst h0; rfl
  · rw [text_pos (by omega), ut_pos (by omega), show n.natAbs = n.toNat by omega]
theorem text_ut_neg {m : Nat} (h : m ≠ 0) : text (-(m : Int)) = 45 :: ut m := by
  rw [text_neg (by omega), ut_pos h, show (-(m : Int)).natAbs = m by omega]

theorem val_cons (a z : Int) (l : List Int) : val a (z :: l) = val (a * 10 + (z - 48)) l := rfl
theorem val_ge : ∀ (l : List Int) (a : Int), (∀ z ∈ l, 48 ≤ z ∧ z ≤ 57) → 0 ≤ a → a ≤ val a l
  | [], a, _, _ => Int.le_refl _
  | z :: l, a, h, h0 => by
    have := h z (by simp)
    rw [val_cons]
    have := val_ge l (a * 10 + (z - 48)) (fun y hy => h y (by simp [hy])) (by omega)
    omega
theorem val_snoc (l : List Int) (z : Int) : val 0 (l ++ [z]) = val 0 l * 10 + (z - 48) := by rw [val_append]; rfl

/-- digits are the text of what they make. -/
theorem dg_back : ∀ (k : Nat) (l : List Int), l.length = k → (∀ z ∈ l, 48 ≤ z ∧ z ≤ 57) → (∃ z r, l = z :: r ∧ 49 ≤ z) → ∀ j, dg (k + j) (val 0 l).toNat = l
  | 0, l, hl, _, ⟨z, r, e, _⟩, j => by rw [e] at hl; simp at hl
  | k + 1, l, hl, hd, hf, j => by
    have hne : l ≠ [] := by intro e; rw [e] at hl; simp at hl
    obtain ⟨x, z, e⟩ : ∃ x z, l = x ++ [z] := ⟨l.dropLast, l.getLast hne, (List.dropLast_concat_getLast hne).symm⟩
    subst e
    have hx : x.length = k := by simpa using hl
    have hz := hd z (by simp)
    have hdx : ∀ y ∈ x, 48 ≤ y ∧ y ≤ 57 := fun y hy => hd y (by simp [hy])
    rw [val_snoc, show k + 1 + j = (k + j) + 1 by omega]
    cases x with
    | nil =>
      obtain ⟨z', r, e, h1⟩ := hf
      simp at e
      obtain ⟨rfl, rfl⟩ := e
      rw [show (val 0 [] * 10 + (z - 48)).toNat = (z - 48).toNat by simp [val], dg_pos _ _ (by omega), show (z - 48).toNat / 10 = 0 by omega, dg_zero, List.nil_append]
      congr 1
      omega
    | cons y r =>
      obtain ⟨z', r', e, h1⟩ := hf
      simp only [List.cons_append, List.cons.injEq] at e
      obtain ⟨rfl, _⟩ := e
      have hv : 1 ≤ val 0 (y :: r) := by
        rw [val_cons]
        have := val_ge r (0 * 10 + (y - 48)) (fun u hu => hdx u (by simp [hu])) (by omega)
        omega
      have ih := dg_back k (y :: r) hx hdx ⟨y, r, rfl, h1⟩ j
      generalize val 0 (y :: r) = v at *
      rw [dg_pos _ _ (by omega), show (v * 10 + (z - 48)).toNat / 10 = v.toNat by omega, ih]
      congr 2
      omega
theorem ut_back {l : List Int} (hd : ∀ z ∈ l, 48 ≤ z ∧ z ≤ 57) (hne : l ≠ []) (hf : 2 ≤ l.length → ∀ r, l ≠ 48 :: r) (hv : val 0 l ≤ 9223372036854775808) : l = ut (val 0 l).toNat := by
  match l, hne with
  | z :: r, _ =>
    have hz := hd z (by simp)
    by_cases h48 : z = 48
    · subst h48
      have : r = [] := by
        cases r with
        | nil => rfl
        | cons y r => exact absurd rfl (hf (by simp) _)
      subst this
      rfl
    · have h1 := dg_back _ (z :: r) rfl hd ⟨z, r, rfl, by omega⟩ 19
      have hge := val_ge r (0 * 10 + (z - 48)) (fun u hu => hd u (by simp [hu])) (by omega)
      rw [← val_cons] at hge
      rw [ut_pos (by omega)]
      rw [Nat.add_comm, dg_same 19 _ _ (by rw [ten19]; omega)] at h1
      exact h1.symm

/-- what digits alone are read as: minus their number. -/
def nread (l : List Int) : Int × Bool := if l = ut (val 0 l).toNat ∧ val 0 l ≤ 9223372036854775808 then (-(val 0 l), true) else (0, false)
theorem nread_ut {m : Nat} (h : m ≤ 9223372036854775808) : nread (ut m) = (-(m : Int), true) := by
  unfold nread
  rw [val_ut h, if_pos ⟨by rw [Int.toNat_natCast], by omega⟩]
theorem nread_true {l : List Int} {n : Int} (h : nread l = (n, true)) : ∃ m : Nat, m ≤ 9223372036854775808 ∧ n = -(m : Int) ∧ l = ut m := by
  unfold nread at h
  split at h
  · rename_i e
    have hn : -(val 0 l) = n := congrArg Prod.fst h
    have h0 : 0 ≤ val 0 l := val_ge l 0 (by rw [e.1]; exact ut_digits _) (by omega)
    exact ⟨(val 0 l).toNat, by omega, by omega, e.1⟩
  · exact absurd (congrArg Prod.snd h) (by simp)
theorem nread_none {l : List Int} (h : ∀ m : Nat, m ≤ 9223372036854775808 → l ≠ ut m) : nread l = (0, false) := by
  unfold nread
  rw [if_neg]
  rintro ⟨e, h1⟩
  exact h _ (by omega) e
theorem nread_cases (l : List Int) : (∃ m : Nat, m ≤ 9223372036854775808 ∧ l = ut m ∧ nread l = (-(m : Int), true)) ∨ ((∀ m : Nat, m ≤ 9223372036854775808 → l ≠ ut m) ∧ nread l = (0, false)) := by
  by_cases h : ∃ m : Nat, m ≤ 9223372036854775808 ∧ l = ut m
  · obtain ⟨m, h1, h2⟩ := h
    exact .inl ⟨m, h1, h2, by rw [h2]; exact nread_ut h1⟩
  · have h' : ∀ m : Nat, m ≤ 9223372036854775808 → l ≠ ut m := fun m h1 h2 => h ⟨m, h1, h2⟩
    exact .inr ⟨h', nread_none h'⟩
theorem nread_nil : nread [] = (0, false) := nread_none fun m h e => by
  rcases ut_first h with ⟨_, e'⟩ | ⟨z, r, e', _⟩ <;> rw [e'] at e <;> cases e
theorem nread_good {l : List Int} (hd : ∀ z ∈ l, 48 ≤ z ∧ z ≤ 57) (hne : l ≠ []) (hf : 2 ≤ l.length → ∀ r, l ≠ 48 :: r) (hv : val 0 l ≤ 9223372036854775808) : nread l = (-(val 0 l), true) := by
  unfold nread
  rw [if_pos ⟨ut_back hd hne hf hv, hv⟩]
theorem nread_bad {l : List Int} {i : Nat} (h : i < l.length) (hd : ¬ (48 ≤ l[i] ∧ l[i] ≤ 57)) : nread l = (0, false) := nread_none fun m _ e => by
  subst e
  exact hd (ut_digits m _ (List.getElem_mem h))
theorem nread_nought {l : List Int} {i : Nat} (h0 : 0 < i) (h : i < l.length) (hv : val 0 (l.take i) = 0) : nread l = (0, false) := nread_none fun m hm e => by
  rcases ut_first hm with ⟨_, e'⟩ | ⟨z, r, e', hz, _⟩
  · rw [e, e'] at h
    simp at h
    omega
  · have hd := ut_digits m
    rw [← e] at hd
    rw [e'] at e
    rw [e] at hv hd
    obtain ⟨j, rfl⟩ : ∃ j, i = j + 1 := ⟨i - 1, by omega⟩
    rw [List.take_succ_cons, val_cons] at hv
    have := val_ge (r.take j) (0 * 10 + (z - 48)) (fun u hu => hd u (by simp [List.mem_of_mem_take hu])) (by omega)
    omega
theorem nread_big {l : List Int} {i : Nat} (hv : 9223372036854775808 < val 0 (l.take i)) : nread l = (0, false) := nread_none fun m hm e => by
  have hd := ut_digits m
  rw [← e] at hd
  have h1 := val_ut hm
  rw [← e, ← List.take_append_drop i l, val_append] at h1
  have := val_ge (l.drop i) (val 0 (l.take i)) (fun u hu => hd u (List.mem_of_mem_drop hu)) (by omega)
  omega

theorem read_minus (r : List Int) : read (45 :: r) = ((nread r).1, (nread r).2 && decide ((nread r).1 ≠ 0)) := by
  rcases nread_cases r with ⟨m, hm, rfl, e⟩ | ⟨h, e⟩
  · rw [e]
    by_cases h0 : m = 0
    · subst h0
      refine read_none fun n hn e' => ?_
      rcases Int.lt_trichotomy n 0 with h1 | h1 | h1
      · obtain ⟨k, rfl⟩ : ∃ k : Nat, n = -(k : Int) := ⟨n.natAbs, by omega⟩
        rw [text_ut_neg (by omega)] at e'
        have e2 : ut 0 = ut k := by simpa using e'
        have := val_ut (m := k) (by have := hn.1; omega)
        rw [← e2, val_ut (m := 0) (by omega)] at this
        omega
      · subst h1; cases e'
      · rw [text_ut (by omega)] at e'
        rcases ut_first (m := n.toNat) (by have := hn.2; omega) with ⟨_, e2⟩ | ⟨z, r, e2, hz⟩ <;> rw [e2] at e'
        · cases e'
        · have : z = 45 := by simp at e'; exact e'.1.symm
          omega
    · rw [← text_ut_neg h0, read_text ⟨by omega, by omega⟩]
      congr 1
      simp
      omega
  · rw [e]
    refine read_none fun n hn e' => ?_
    by_cases h1 : n < 0
    · obtain ⟨k, rfl⟩ : ∃ k : Nat, n = -(k : Int) := ⟨n.natAbs, by omega⟩
      rw [text_ut_neg (by omega)] at e'
      exact h k (by have := hn.1; omega) (by simpa using e')
    · rw [text_ut (by omega)] at e'
      rcases ut_first (m := n.toNat) (by have := hn.2; omega) with ⟨_, e2⟩ | ⟨z, r, e2, hz⟩ <;> rw [e2] at e'
      · cases e'
      · have : z = 45 := by simp at e'; exact e'.1.symm
        omega
theorem read_plain {l : List Int} (h : ∀ r, l ≠ 45 :: r) : read l = if (nread l).1 = -9223372036854775808 then (0, false) else (-(nread l).1, (nread l).2) := by
  have hneg : ∀ n, fits n → l = text n → 0 ≤ n ∧ l = ut n.toNat := by
    intro n hn e
    have h0 : 0 ≤ n := by
      apply Int.not_lt.1
      intro h1
      obtain ⟨k, rfl⟩ : ∃ k : Nat, n = -(k : Int) := ⟨n.natAbs, by omega⟩
      rw [text_ut_neg (by omega)] at e
      exact h _ e
    exact ⟨h0, by rw [e, text_ut h0]⟩
  rcases nread_cases l with ⟨m, hm, rfl, e⟩ | ⟨hn, e⟩
  · rw [e]
    by_cases hb : m = 9223372036854775808
    · subst hb
      rw [if_pos (by decide)]
      refine read_none fun n hn e' => ?_
      obtain ⟨h0, e2⟩ := hneg n hn e'
      have h1 := val_ut (m := n.toNat) (by have := hn.2; omega)
      rw [← e2, val_ut (by omega)] at h1
      have := hn.2
      omega
    · rw [if_neg (by simp only; omega)]
      have e2 := text_ut (n := (m : Int)) (by omega)
      rw [Int.toNat_natCast] at e2
      rw [← e2, read_text ⟨by omega, by omega⟩]
      simp
  · rw [e, if_neg (by decide)]
    refine read_none fun n hf e' => ?_
    obtain ⟨h0, e2⟩ := hneg n hf e'
    exact hn n.toNat (by have := hf.2; omega) e2

/-- a digit more. -/
def longer (n r : Int) : Int × Bool := if (48 ≤ r ∧ r ≤ 57) ∧ -9223372036854775808 ≤ n * 10 - (r - 48) then (n * 10 - (r - 48), true) else (0, false)
end Dig
end Go.Proofs.YtinfjhfopmglaaaDoor
