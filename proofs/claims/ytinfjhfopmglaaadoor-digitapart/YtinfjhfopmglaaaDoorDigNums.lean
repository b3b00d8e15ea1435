/-
  Plain facts on the texts of numbers: no program is named here.
-/
import Derived.Test.YtinfjhfopmglaaaDoorNums
namespace Go.Proofs.YtinfjhfopmglaaaDoor
set_option linter.unusedVariables false
set_option linter.unusedSimpArgs false
namespace Dig

/-- the decimal digits of a number below 10 ^ k, as octets, without noughts ahead; of 0: none. -/
def dg : Nat → Nat → List Int
  | 0, _ => []
  | k + 1, n => if n = 0 then [] else dg k (n / 10) ++ [((48 + n % 10 : Nat) : Int)]

theorem dg_zero (k : Nat) : dg k 0 = [] := by cases k <;> simp [dg]
theorem dg_pos (k n : Nat) (h : n ≠ 0) : dg (k + 1) n = dg k (n / 10) ++ [((48 + n % 10 : Nat) : Int)] := by simp [dg, h]

/-- more room, the same digits. -/
theorem dg_more : ∀ (k n : Nat), n < 10 ^ k → dg (k + 1) n = dg k n
  | 0, n, h => by
    have : n = 0 := by simpa using h
    subst this
    rfl
  | k + 1, n, h => by
    by_cases h0 : n = 0
    · subst h0; rw [dg_zero, dg_zero]
    · rw [dg_pos _ _ h0, dg_pos _ _ h0, dg_more k (n / 10) (by rw [Nat.pow_succ] at h; omega)]
theorem dg_same (k : Nat) : ∀ (j n : Nat), n < 10 ^ k → dg (k + j) n = dg k n
  | 0, n, h => rfl
  | j + 1, n, h => by
    rw [← Nat.add_assoc, dg_more (k + j) n (Nat.lt_of_lt_of_le h (Nat.pow_le_pow_right (by decide) (by omega))), dg_same k j n h]

/-- every octet is a digit. -/
theorem dg_digits : ∀ (k n : Nat), ∀ z ∈ dg k n, 48 ≤ z ∧ z ≤ 57
  | 0, n, z, h => by simp [dg] at h
  | k + 1, n, z, h => by
    by_cases h0 : n = 0
    · subst h0; rw [dg_zero] at h; cases h
    · rw [dg_pos _ _ h0, List.mem_append, List.mem_singleton] at h
      rcases h with h | h
      · exact dg_digits k _ z h
      · subst h; omega

theorem dg_length : ∀ (k n : Nat), (dg k n).length ≤ k
  | 0, n => by simp [dg]
  | k + 1, n => by
    by_cases h0 : n = 0
    · subst h0; rw [dg_zero]; simp
    · rw [dg_pos _ _ h0]
      have := dg_length k (n / 10)
      simp
      omega

/-- the first digit is no nought. -/
theorem dg_first : ∀ (k n : Nat), n < 10 ^ k → n ≠ 0 → ∃ z l, dg k n = z :: l ∧ 49 ≤ z ∧ z ≤ 57
  | 0, n, h, h0 => by simp at h; exact absurd h h0
  | k + 1, n, h, h0 => by
    rw [dg_pos _ _ h0]
    by_cases h1 : n / 10 = 0
    · rw [h1, dg_zero]
      exact ⟨_, [], rfl, by omega, by omega⟩
    · obtain ⟨z, l, e, hz⟩ := dg_first k (n / 10) (by rw [Nat.pow_succ] at h; omega) h1
      rw [e]
      exact ⟨z, l ++ [((48 + n % 10 : Nat) : Int)], rfl, hz⟩

/-- the number that digits are, behind a number. -/
def val (a : Int) (l : List Int) : Int := l.foldl (fun a z => a * 10 + (z - 48)) a
theorem val_append (a : Int) (l m : List Int) : val a (l ++ m) = val (val a l) m := by simp [val]
theorem val_dg : ∀ (k n : Nat), n < 10 ^ k → val 0 (dg k n) = n
  | 0, n, h => by
    have : n = 0 := by simpa using h
    subst this
    rfl
  | k + 1, n, h => by
    by_cases h0 : n = 0
    · subst h0; rw [dg_zero]; rfl
    · rw [dg_pos _ _ h0, val_append, val_dg k (n / 10) (by rw [Nat.pow_succ] at h; omega)]
      simp only [val, List.foldl_cons, List.foldl_nil]
      omega

/-- a number's text. -/
def text (n : Int) : List Int := if n = 0 then [48] else (if n < 0 then [45] else []) ++ dg 19 n.natAbs

def fits (n : Int) : Prop := -9223372036854775808 ≤ n ∧ n ≤ 9223372036854775807
theorem abs_lt {n : Int} (h : fits n) : n.natAbs < 10 ^ 19 := by
  have := h.1; have := h.2
  have e : (10 : Nat) ^ 19 = 10000000000000000000 := by decide
  omega

theorem text_zero : text 0 = [48] := rfl
theorem text_pos {n : Int} (h : 0 < n) : text n = dg 19 n.natAbs := by
  unfold text
  rw [if_neg (by omega), if_neg (by omega)]
  rfl
theorem text_neg {n : Int} (h : n < 0) : text n = 45 :: dg 19 n.natAbs := by
  unfold text
  rw [if_neg (by omega), if_pos h]
  rfl

theorem text_length {n : Int} : (text n).length ≤ 20 := by
  have := dg_length 19 n.natAbs
  unfold text
  split
  · simp
  · split <;> simp <;> omega

theorem text_bytes (n : Int) : Nums.Bytes (text n) := by
  intro z hz
  unfold text at hz
  split at hz
  · simp at hz; omega
  · rw [List.mem_append] at hz
    rcases hz with hz | hz
    · split at hz <;> simp at hz; omega
    · have := dg_digits _ _ z hz; omega

/-- no text holds a full stop. -/
theorem text_no_stop (n : Int) : ∀ z ∈ text n, z ≠ 46 := by
  intro z hz
  unfold text at hz
  split at hz
  · simp at hz; omega
  · rw [List.mem_append] at hz
    rcases hz with hz | hz
    · split at hz <;> simp at hz; omega
    · have := dg_digits _ _ z hz; omega

/-- what a text's octets, read from the left, make: each step wrapped round, a minus turning each. -/
def w64 (n : Int) : Int := (n + 9223372036854775808) % 18446744073709551616 - 9223372036854775808
theorem w64_fits (n : Int) : fits (w64 n) := by unfold w64 fits; omega
theorem w64_id {n : Int} (h : fits n) : w64 n = n := by unfold w64 fits at *; omega
theorem w64_step (a d : Int) : w64 (w64 (w64 a * 10) + d) = w64 (a * 10 + d) := by unfold w64; omega

def rdw (neg : Bool) (a : Int) (l : List Int) : Int := l.foldl (fun a z => w64 (w64 (a * 10) + (if neg then -(z - 48) else z - 48))) a
theorem rdw_val (neg : Bool) : ∀ (l : List Int) (a : Int), rdw neg (w64 (if neg then -a else a)) l = w64 (if neg then -(val a l) else val a l)
  | [], a => rfl
  | z :: l, a => by
    have ih := rdw_val neg l (a * 10 + (z - 48))
    show rdw neg (w64 (w64 (w64 (if neg then -a else a) * 10) + (if neg then -(z - 48) else z - 48))) l = w64 (if neg then -(val (a * 10 + (z - 48)) l) else val (a * 10 + (z - 48)) l)
    rw [w64_step, ← ih]
    congr 2
    cases neg
    · simp
    · simp; omega

/-- the number of a text, if it is one's. -/
def num (l : List Int) : Int := match l with
  | 45 :: r => rdw true 0 r
  | l => rdw false 0 l
theorem num_neg (r : List Int) : num (45 :: r) = rdw true 0 r := rfl
theorem num_else (l : List Int) (h : ∀ r, l ≠ 45 :: r) : num l = rdw false 0 l := by
  unfold num
  split
  · exact absurd rfl (h _)
  · rfl

theorem num_fits (l : List Int) : fits (num l) := by
  have h : ∀ (neg : Bool) (l : List Int) (a : Int), fits a → fits (rdw neg a l) := by
    intro neg l
    induction l with
    | nil => exact fun a h => h
    | cons z l ih => exact fun a _ => ih _ (w64_fits _)
  unfold num
  split <;> exact h _ _ _ (by unfold fits; omega)

/-- there and back. -/
theorem num_text {n : Int} (h : fits n) : num (text n) = n := by
  rcases Int.lt_trichotomy n 0 with hn | hn | hn
  · rw [text_neg hn, num_neg]
    have e := rdw_val true (dg 19 n.natAbs) 0
    simp only [if_true] at e
    rw [show w64 (-0) = 0 from rfl] at e
    rw [e, val_dg 19 _ (abs_lt h), show -((n.natAbs : Nat) : Int) = n by omega, w64_id h]
  · subst hn; rfl
  · rw [text_pos hn]
    obtain ⟨z, l, hz, hz1, hz2⟩ := dg_first 19 n.natAbs (abs_lt h) (by omega)
    have e := rdw_val false (dg 19 n.natAbs) 0
    simp only [Bool.false_eq_true, if_false] at e
    rw [show w64 0 = 0 from rfl] at e
    rw [num_else _ (by intro r hr; rw [hz] at hr; cases hr; omega), e, val_dg 19 _ (abs_lt h), show ((n.natAbs : Nat) : Int) = n by omega, w64_id h]

theorem text_inj {n m : Int} (hn : fits n) (hm : fits m) (h : text n = text m) : n = m := by
  rw [← num_text hn, ← num_text hm, h]

/-- what is read: the number whose text it just is, or none. -/
def read (l : List Int) : Int × Bool := if l = text (num l) then (num l, true) else (0, false)
theorem read_text {n : Int} (h : fits n) : read (text n) = (n, true) := by
  unfold read
  rw [num_text h, if_pos rfl]
theorem read_true {l : List Int} {n : Int} (h : read l = (n, true)) : l = text n ∧ fits n := by
  unfold read at h
  split at h
  · rename_i e
    cases h
    exact ⟨e, num_fits l⟩
  · cases h
theorem read_none {l : List Int} (h : ∀ n, fits n → l ≠ text n) : read l = (0, false) := by
  unfold read
  rw [if_neg (h _ (num_fits l))]

/-- a handle's text. -/
def htext (a b : Int) : List Int := if a < 0 ∨ b < 0 then [] else text a ++ 46 :: text b
theorem htext_pos {a b : Int} (ha : 0 ≤ a) (hb : 0 ≤ b) : htext a b = text a ++ 46 :: text b := by
  unfold htext
  rw [if_neg (by omega)]
theorem htext_neg {a b : Int} (h : a < 0 ∨ b < 0) : htext a b = [] := by
  unfold htext
  rw [if_pos h]

theorem htext_bytes (a b : Int) : Nums.Bytes (htext a b) := by
  unfold htext
  split
  · exact Nums.bytes_nil
  · refine Nums.bytes_append (text_bytes a) fun z hz => ?_
    rcases List.mem_cons.1 hz with rfl | hz
    · omega
    · exact text_bytes b z hz

/-- two texts, each ahead of a first full stop. -/
theorem stop_inj : ∀ {l l' r r' : List Int}, (∀ z ∈ l, z ≠ 46) → (∀ z ∈ l', z ≠ 46) → l ++ 46 :: r = l' ++ 46 :: r' → l = l' ∧ r = r'
  | [], [], r, r', _, _, h => by simpa using h
  | [], y :: l', r, r', _, h2, h => by
    simp at h
    exact absurd h.1.symm (h2 y (by simp))
  | x :: l, [], r, r', h1, _, h => by
    simp at h
    exact absurd h.1 (h1 x (by simp))
  | x :: l, y :: l', r, r', h1, h2, h => by
    simp only [List.cons_append, List.cons.injEq] at h
    obtain ⟨e1, e2⟩ := stop_inj (fun z hz => h1 z (by simp [hz])) (fun z hz => h2 z (by simp [hz])) h.2
    exact ⟨by rw [h.1, e1], e2⟩

theorem htext_inj {a b c d : Int} (ha : 0 ≤ a) (hb : 0 ≤ b) (hc : 0 ≤ c) (hd : 0 ≤ d) (h1 : fits a) (h2 : fits b) (h3 : fits c) (h4 : fits d) (h : htext a b = htext c d) : a = c ∧ b = d := by
  rw [htext_pos ha hb, htext_pos hc hd] at h
  obtain ⟨e1, e2⟩ := stop_inj (text_no_stop a) (text_no_stop c) h
  exact ⟨text_inj h1 h3 e1, text_inj h2 h4 e2⟩

/-- a text, parted at its first full stop. -/
def cut : List Int → Option (List Int × List Int)
  | [] => none
  | z :: l => if z = 46 then some ([], l) else (cut l).map fun p => (z :: p.1, p.2)
theorem cut_some : ∀ (l r : List Int), (∀ z ∈ l, z ≠ 46) → cut (l ++ 46 :: r) = some (l, r)
  | [], r, _ => by simp [cut]
  | z :: l, r, h => by
    rw [List.cons_append, cut, if_neg (h z (by simp)), cut_some l r (fun y hy => h y (by simp [hy]))]
    rfl
theorem cut_none : ∀ (l : List Int), (∀ z ∈ l, z ≠ 46) → cut l = none
  | [], _ => rfl
  | z :: l, h => by
    rw [cut, if_neg (h z (by simp)), cut_none l (fun y hy => h y (by simp [hy]))]
    rfl
theorem cut_spec : ∀ {l p q : List Int}, cut l = some (p, q) → l = p ++ 46 :: q ∧ ∀ z ∈ p, z ≠ 46
  | [], p, q, h => by simp [cut] at h
  | z :: l, p, q, h => by
    rw [cut] at h
    split at h
    · rename_i e
      simp at h
      obtain ⟨rfl, rfl⟩ := h
      exact ⟨by rw [e]; rfl, by simp⟩
    · rename_i e
      obtain ⟨⟨p', q'⟩, h1, h2⟩ := Option.map_eq_some_iff.1 h
      simp at h2
      obtain ⟨rfl, rfl⟩ := h2
      obtain ⟨e1, e2⟩ := cut_spec h1
      refine ⟨by rw [e1]; rfl, fun y hy => ?_⟩
      rcases List.mem_cons.1 hy with rfl | hy
      · exact e
      · exact e2 y hy

/-- the handle whose text it just is, or none. -/
def hread (l : List Int) : (Int × Int) × Bool := match cut l with
  | none => ((0, 0), false)
  | some (p, q) => if (read p).2 = true ∧ (read q).2 = true ∧ htext (read p).1 (read q).1 = l then (((read p).1, (read q).1), true) else ((0, 0), false)

theorem hread_text {a b : Int} (ha : 0 ≤ a) (hb : 0 ≤ b) (h1 : fits a) (h2 : fits b) : hread (htext a b) = ((a, b), true) := by
  rw [htext_pos ha hb]
  unfold hread
  rw [cut_some _ _ (text_no_stop a)]
  simp only [read_text h1, read_text h2]
  rw [if_pos ⟨trivial, trivial, htext_pos ha hb⟩]
theorem hread_true {l : List Int} {a b : Int} (h : hread l = ((a, b), true)) : l = htext a b ∧ 0 ≤ a ∧ 0 ≤ b ∧ fits a ∧ fits b := by
  unfold hread at h
  split at h
  · cases h
  · rename_i p q hc
    split at h
    · rename_i hh
      have e1 := congrArg (fun x : (Int × Int) × Bool => x.1.1) h
      have e2 := congrArg (fun x : (Int × Int) × Bool => x.1.2) h
      simp only at e1 e2
      have f1 := (read_true (l := p) (n := a) (by rw [← e1, ← hh.1])).2
      have f2 := (read_true (l := q) (n := b) (by rw [← e2, ← hh.2.1])).2
      have hl := hh.2.2
      rw [e1, e2] at hl
      have hne : ¬ (a < 0 ∨ b < 0) := by
        intro hn
        rw [htext_neg hn] at hl
        rw [← hl] at hc
        simp [cut] at hc
      exact ⟨hl.symm, by omega, by omega, f1, f2⟩
    · cases h
theorem hread_none {l : List Int} (h : ∀ a b, 0 ≤ a → 0 ≤ b → fits a → fits b → l ≠ htext a b) : hread l = ((0, 0), false) := by
  cases hr : hread l with
  | mk ab ok =>
    cases ok with
    | true =>
      obtain ⟨e, h1, h2, h3, h4⟩ := hread_true (a := ab.1) (b := ab.2) hr
      exact absurd e (h _ _ h1 h2 h3 h4)
    | false =>
      unfold hread at hr
      split at hr
      · exact hr.symm
      · split at hr
        · cases hr
        · exact hr.symm

/-- how a text begins. -/
theorem text_first {n : Int} (h : fits n) : (n = 0 ∧ text n = [48]) ∨ ∃ z r, text n = z :: r ∧ (z = 45 ∨ (49 ≤ z ∧ z ≤ 57)) := by
  rcases Int.lt_trichotomy n 0 with hn | hn | hn
  · exact .inr ⟨45, _, text_neg hn, .inl rfl⟩
  · subst hn; exact .inl ⟨rfl, rfl⟩
  · obtain ⟨z, l, hz, h1, h2⟩ := dg_first 19 n.natAbs (abs_lt h) (by omega)
    exact .inr ⟨z, l, (text_pos hn).trans hz, .inr ⟨h1, h2⟩⟩
theorem text_some {n : Int} (h : fits n) : text n ≠ [] := by
  rcases text_first h with ⟨_, e⟩ | ⟨z, r, e, _⟩ <;> rw [e] <;> simp
/-- a nought, or a plus, ahead of a text: no text. -/
theorem read_nought {n : Int} (h : fits n) : read (48 :: text n) = (0, false) := read_none fun m hm e => by
  rcases text_first hm with ⟨_, e'⟩ | ⟨z, r, e', hz⟩
  · rw [e'] at e
    exact text_some h (by simpa using e)
  · rw [e'] at e
    have : z = 48 := by simp at e; exact e.1.symm
    omega
theorem read_plus {n : Int} : read (43 :: text n) = (0, false) := read_none fun m hm e => by
  rcases text_first hm with ⟨_, e'⟩ | ⟨z, r, e', hz⟩
  · rw [e'] at e; simp at e
  · rw [e'] at e
    have : z = 43 := by simp at e; exact e.1.symm
    omega

/-- what stands at a place of a text. -/
theorem text_at (n : Int) (i : Nat) (h : i < (text n).length) : (48 ≤ (text n)[i] ∧ (text n)[i] ≤ 57) ∨ (i = 0 ∧ (text n)[i] = 45) := by
  rcases Int.lt_trichotomy n 0 with hn | hn | hn
  · have e := text_neg hn
    cases i with
    | zero => right; simp [e]
    | succ i =>
      left
      have h2 : i < (dg 19 n.natAbs).length := by rw [e] at h; simpa using h
      have h3 := dg_digits 19 n.natAbs _ (List.getElem_mem h2)
      have e2 : (text n)[i + 1] = (dg 19 n.natAbs)[i] := by simp [e]
      rw [e2]
      exact h3
  · subst hn
    left
    have h1 : i < 1 := by simpa [text_zero] using h
    have : i = 0 := by omega
    subst this
    exact ⟨by show (48 : Int) ≤ 48; omega, by show (48 : Int) ≤ 57; omega⟩
  · left
    have e := text_pos hn
    have h2 : i < (dg 19 n.natAbs).length := by rw [e] at h; exact h
    have e2 : (text n)[i] = (dg 19 n.natAbs)[i] := by simp [e]
    rw [e2]
    exact dg_digits 19 n.natAbs _ (List.getElem_mem h2)
/-- an octet that is no digit, nor a minus at the head: no text. -/
theorem read_bad {l : List Int} {i : Nat} (h : i < l.length) (hd : ¬ (48 ≤ l[i] ∧ l[i] ≤ 57)) (hm : ¬ (i = 0 ∧ l[i] = 45)) : read l = (0, false) := read_none fun n _ e => by
  subst e
  rcases text_at n i h with h1 | h1
  · exact hd h1
  · exact hm h1
end Dig
end Go.Proofs.YtinfjhfopmglaaaDoor
