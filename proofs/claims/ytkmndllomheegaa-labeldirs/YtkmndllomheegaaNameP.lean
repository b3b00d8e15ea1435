/-
  A text's runes, as lists: plain facts.
-/
import Derived.Test.YtkmndllomheegaaNameA
namespace Go.Proofs.Ytkmndllomheegaa
set_option linter.unusedVariables false
set_option linter.unusedSimpArgs false
open Go.RowKit

theorem dec_width {l : List Int} (hz : Nums.Bytes l) (h : l ≠ []) : 1 ≤ (dec l).2 ∧ (dec l).2 ≤ l.length ∧ (dec l).1 ≤ 1114111 ∧ (dec l).2 ≤ 4 := by
  match l, h with
  | z :: r, _ =>
    have hb := hz z (by simp)
    unfold dec
    simp only [List.getD_cons_zero]
    generalize ((z :: r).getD 1 0).toNat = b1
    generalize ((z :: r).getD 2 0).toNat = b2
    generalize ((z :: r).getD 3 0).toNat = b3
    have hl : 1 ≤ (z :: r).length := by simp
    generalize (z :: r).length = n at *
    have h4 : (Lib.decodeN n z.toNat b1 b2 b3).2 ≤ 4 := by
      unfold Lib.decodeN
      repeat' split
      all_goals simp only <;> omega
    by_cases h : z.toNat < 128
    · rw [dec1 h] at *
      exact ⟨by simp, by simpa using hl, by simp; omega, by simp⟩
    · obtain ⟨h1, h2, h3, h5⟩ := decodeN_high n z.toNat b1 b2 b3 hl (by omega) (by omega)
      exact ⟨h3, h5, h2, h4⟩

theorem bytes_dropw {l : List Int} (hz : Nums.Bytes l) (n : Nat) : Nums.Bytes (l.drop n) := fun z h => hz z (List.mem_of_mem_drop h)

/-- a text's runes, at most so many. -/
def runesF : Nat → List Int → List Nat
  | 0, _ => []
  | f + 1, l => if l = [] then [] else (dec l).1 :: runesF f (l.drop (dec l).2)
def runes (l : List Int) : List Nat := runesF l.length l

theorem runesF_more (f g : Nat) (l : List Int) (hz : Nums.Bytes l) (hf : l.length ≤ f) (hg : l.length ≤ g) : runesF f l = runesF g l := by
  induction f generalizing g l with
  | zero =>
    obtain rfl : l = [] := List.eq_nil_of_length_eq_zero (by omega)
    cases g <;> simp [runesF]
  | succ f ih =>
    cases g with
    | zero =>
      obtain rfl : l = [] := List.eq_nil_of_length_eq_zero (by omega)
      simp [runesF]
    | succ g =>
      unfold runesF
      by_cases h : l = []
      · rw [if_pos h, if_pos h]
      · rw [if_neg h, if_neg h]
        have hw := dec_width hz h
        congr 1
        exact ih g _ (bytes_dropw hz _) (by simp; omega) (by simp; omega)

theorem runes_nil : runes [] = [] := rfl
theorem runes_cons {l : List Int} (hz : Nums.Bytes l) (h : l ≠ []) : runes l = (dec l).1 :: runes (l.drop (dec l).2) := by
  have hw := dec_width hz h
  unfold runes
  obtain ⟨n, hn⟩ : ∃ n, l.length = n + 1 := ⟨l.length - 1, by omega⟩
  conv => lhs; rw [hn]; unfold runesF
  rw [if_neg h]
  congr 1
  exact runesF_more _ _ _ (bytes_dropw hz _) (by simp; omega) (Nat.le_refl _)

/-- the rune at a place, and the rest. -/
theorem runes_at {l : List Int} (hz : Nums.Bytes l) {pos : Nat} (hp : pos < l.length) : runes (l.drop pos) = (dec (l.drop pos)).1 :: runes (l.drop (pos + (dec (l.drop pos)).2)) := by
  rw [runes_cons (bytes_dropw hz pos) (fun h => by have := congrArg List.length h; simp at this; omega), List.drop_drop]
theorem at_width {l : List Int} (hz : Nums.Bytes l) {pos : Nat} (hp : pos < l.length) : 1 ≤ (dec (l.drop pos)).2 ∧ pos + (dec (l.drop pos)).2 ≤ l.length ∧ (dec (l.drop pos)).1 ≤ 1114111 := by
  have h := dec_width (bytes_dropw hz pos) (fun h => by have := congrArg List.length h; simp at this; omega)
  simp at h
  omega
theorem runes_le {l : List Int} (hz : Nums.Bytes l) : ∀ r ∈ runes l, r ≤ 1114111 := by
  obtain ⟨n, hn⟩ : ∃ n, l.length ≤ n := ⟨_, Nat.le_refl _⟩
  induction n generalizing l with
  | zero =>
    obtain rfl : l = [] := List.eq_nil_of_length_eq_zero (by omega)
    simp [runes_nil]
  | succ n ih =>
    by_cases h : l = []
    · subst h; simp [runes_nil]
    · have hw := dec_width hz h
      rw [runes_cons hz h]
      intro r hr
      rcases List.mem_cons.1 hr with rfl | hr
      · exact hw.2.2.1
      · exact ih (bytes_dropw hz _) (by simp; omega) r hr
theorem runes_length {l : List Int} (hz : Nums.Bytes l) : (runes l).length ≤ l.length := by
  obtain ⟨n, hn⟩ : ∃ n, l.length ≤ n := ⟨_, Nat.le_refl _⟩
  induction n generalizing l with
  | zero =>
    obtain rfl : l = [] := List.eq_nil_of_length_eq_zero (by omega)
    simp [runes_nil]
  | succ n ih =>
    by_cases h : l = []
    · subst h; simp [runes_nil]
    · have hw := dec_width hz h
      rw [runes_cons hz h]
      have := ih (bytes_dropw hz (dec l).2) (by simp; omega)
      simp at this ⊢
      omega

/-- what a range over a string brings. -/
theorem next_dec (l : List Int) (hz : Nums.Bytes l) (W : World) (g pos : Nat) (hk : W.heap[g]? = some (.stringIter (strOfNums l) pos)) (hp : pos < l.length) :
    ∀ ty, (Instr.next (.pointer (some ⟨g, 0, none⟩)) true ty).run Try.prog W = .ok (.tuple #[.bool true, .int .i64 pos, .int .i32 (dec (l.drop pos)).1]) (W.iterAt g (strOfNums l) (pos + (dec (l.drop pos)).2)) := by
  intro ty
  have h := Lib.run_next_any_at (P := Try.prog) W g (strOfNums l) pos ty hk (by rw [size_str]; exact hp)
  rw [dec_decode l pos hz hp] at h
  exact h

/-- a rune of a name? -/
def ofR (r : Int) : Bool := decide ((97 ≤ r ∧ r ≤ 122) ∨ (65 ≤ r ∧ r ≤ 90) ∨ (48 ≤ r ∧ r ≤ 57) ∨ r = 45 ∨ r = 95 ∨ (161 ≤ r ∧ r ≤ 65519))
/-- a name? -/
def rightR (m : List Nat) : Bool := decide (0 < m.length ∧ m.length ≤ 8 ∧ ∀ r ∈ m, ofR r = true)
/-- the order of two lists of runes. -/
def cmpR : List Nat → List Nat → Int
  | [], [] => 0
  | [], _ :: _ => -1
  | _ :: _, [] => 1
  | a :: x, b :: y => if a < b then -1 else if b < a then 1 else cmpR x y
/-- a text's first runes. -/
def cutF : Nat → List Int → List Int
  | 0, _ => []
  | n + 1, l => if l = [] then [] else l.take (dec l).2 ++ cutF n (l.drop (dec l).2)
end Go.Proofs.Ytkmndllomheegaa
