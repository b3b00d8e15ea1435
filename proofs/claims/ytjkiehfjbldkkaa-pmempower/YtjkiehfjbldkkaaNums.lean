/-
  Plain facts on lists of octets and the numbers that they are: no program is named here.
-/
import Derived.WalkKit
namespace Go.Proofs.Ytjkiehfjbldkkaa
set_option linter.unusedVariables false
set_option linter.unusedSimpArgs false
namespace Nums

/-- The number that octets are, the least first. -/
def rd : List Int → Int
  | [] => 0
  | z :: r => z + 256 * rd r

/-- The first n octets of a number, the least first. -/
def lay : Int → Nat → List Int
  | _, 0 => []
  | v, n + 1 => v % 256 :: lay (v / 256) n

def Bytes (l : List Int) : Prop := ∀ z ∈ l, 0 ≤ z ∧ z ≤ 255

theorem bytes_nil : Bytes [] := by intro z hz; cases hz
theorem bytes_cons {z : Int} {l : List Int} (h : Bytes (z :: l)) : (0 ≤ z ∧ z ≤ 255) ∧ Bytes l :=
  ⟨h z (by simp), fun y hy => h y (by simp [hy])⟩
theorem bytes_take {l : List Int} (h : Bytes l) (k : Nat) : Bytes (l.take k) := fun z hz => h z (List.mem_of_mem_take hz)
theorem bytes_drop {l : List Int} (h : Bytes l) (k : Nat) : Bytes (l.drop k) := fun z hz => h z (List.mem_of_mem_drop hz)
theorem bytes_append {l m : List Int} (h : Bytes l) (k : Bytes m) : Bytes (l ++ m) := fun z hz => by
  rcases List.mem_append.1 hz with q | q
  · exact h z q
  · exact k z q
theorem bytes_replicate (n : Nat) : Bytes (List.replicate n 0) := fun z hz => by
  have := (List.mem_replicate.1 hz).2; subst this; omega

theorem pow_pos (n : Nat) : (0 : Int) < 256 ^ n := Int.pow_pos (by decide)

theorem rd_bounds : ∀ (l : List Int), Bytes l → 0 ≤ rd l ∧ rd l < 256 ^ l.length
  | [], _ => by simp [rd]
  | z :: r, h => by
    have ih := rd_bounds r (bytes_cons h).2
    have hz := (bytes_cons h).1
    simp only [rd, List.length_cons, Int.pow_succ]
    omega

theorem rd_append : ∀ (l m : List Int), rd (l ++ m) = rd l + 256 ^ l.length * rd m
  | [], m => by simp [rd]
  | z :: r, m => by
    have ih := rd_append r m
    simp only [rd, List.cons_append, List.length_cons, Int.pow_succ, ih]
    rw [Int.mul_add, Int.add_assoc, Int.mul_comm (256 ^ r.length) 256, Int.mul_assoc]

theorem rd_snoc (l : List Int) (z : Int) : rd (l ++ [z]) = rd l + 256 ^ l.length * z := by
  rw [rd_append]; simp [rd]

theorem length_lay : ∀ (n : Nat) (v : Int), (lay v n).length = n
  | 0, _ => rfl
  | n + 1, v => by simp [lay, length_lay n]

theorem bytes_lay : ∀ (n : Nat) (v : Int), Bytes (lay v n)
  | 0, _ => bytes_nil
  | n + 1, v => fun z hz => by
    rcases List.mem_cons.1 hz with rfl | q
    · omega
    · exact bytes_lay n _ z q

theorem rd_lay : ∀ (n : Nat) (v : Int), rd (lay v n) = v % 256 ^ n
  | 0, v => by simp [lay, rd]
  | n + 1, v => by
    simp only [lay, rd, rd_lay n, Int.pow_succ]
    have hp := pow_pos n
    have e1 := Int.emod_add_mul_ediv v 256
    have e2 := Int.emod_add_mul_ediv (v / 256) (256 ^ n)
    have b1 := Int.emod_nonneg v (show (256 : Int) ≠ 0 by decide)
    have b1' := Int.emod_lt_of_pos v (show (0 : Int) < 256 by decide)
    have b2 := Int.emod_nonneg (v / 256) (show (256 ^ n : Int) ≠ 0 by omega)
    have b2' := Int.emod_lt_of_pos (v / 256) hp
    generalize v / 256 % 256 ^ n = r at *
    generalize v / 256 / 256 ^ n = q at *
    generalize v / 256 = d at *
    generalize v % 256 = m at *
    have e : v = (m + 256 * r) + (256 ^ n * 256) * q := by
      rw [← e1, ← e2, Int.mul_add, Int.mul_comm (256 ^ n) 256, Int.mul_assoc]; omega
    rw [e, Int.add_mul_emod_self_left, Int.emod_eq_of_lt (by omega) (by omega)]

theorem lay_rd : ∀ (l : List Int), Bytes l → lay (rd l) l.length = l
  | [], _ => rfl
  | z :: r, h => by
    have hz := (bytes_cons h).1
    have e1 : (z + 256 * rd r) % 256 = z := by omega
    have e2 : (z + 256 * rd r) / 256 = rd r := by omega
    simp only [rd, List.length_cons, lay, e1, e2, lay_rd r (bytes_cons h).2]

theorem lay_succ : ∀ (n : Nat) (v : Int), lay v (n + 1) = lay v n ++ [v / 256 ^ n % 256]
  | 0, v => by simp [lay]
  | n + 1, v => by
    have ih := lay_succ n (v / 256)
    have e : v / 256 / 256 ^ n = v / 256 ^ (n + 1) := by
      rw [Int.ediv_ediv_of_nonneg (by decide), Int.pow_succ, Int.mul_comm]
    rw [e] at ih
    rw [lay, ih]
    rfl

theorem rd_inj (l m : List Int) (hl : Bytes l) (hm : Bytes m) (hn : l.length = m.length) (h : rd l = rd m) : l = m := by
  rw [← lay_rd l hl, ← lay_rd m hm, h, hn]

end Nums
end Go.Proofs.Ytjkiehfjbldkkaa
