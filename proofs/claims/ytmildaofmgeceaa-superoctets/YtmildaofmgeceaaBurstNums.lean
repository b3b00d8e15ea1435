/-
  Plain facts on octets of which bits were turned, and their sums.
-/
import Derived.Test.YtmildaofmgeceaaCrcNums
import Derived.Test.YtmildaofmgeceaaGround
namespace Go.Proofs.Ytmildaofmgeceaa
set_option linter.unusedVariables false
set_option linter.unusedSimpArgs false
namespace Crc

/-- octets, xored with those of a great number. -/
def xb : List Int → Nat → List Int
  | [], _ => []
  | z :: zs, v => ((z.toNat ^^^ v % 256 : Nat) : Int) :: xb zs (v / 256)

theorem xb_length : ∀ (zs : List Int) (v : Nat), (xb zs v).length = zs.length
  | [], _ => rfl
  | z :: zs, v => by simp [xb, xb_length zs]

theorem xb_zero : ∀ (zs : List Int), Nums.Bytes zs → xb zs 0 = zs
  | [], _ => rfl
  | z :: zs, h => by
    have hz := (Nums.bytes_cons h).1
    rw [xb, Nat.zero_div, xb_zero zs (Nums.bytes_cons h).2, Nat.zero_mod, Nat.xor_zero]
    congr 1
    omega

theorem xb_bytes : ∀ (zs : List Int) (v : Nat), Nums.Bytes zs → Nums.Bytes (xb zs v)
  | [], _, _ => Nums.bytes_nil
  | z :: zs, v, h => by
    intro y hy
    simp only [xb, List.mem_cons] at hy
    rcases hy with rfl | hy
    · have hz := (Nums.bytes_cons h).1
      have : z.toNat ^^^ v % 256 < 2 ^ 8 := Nat.xor_lt_two_pow (by omega) (by omega)
      omega
    · exact xb_bytes zs _ (Nums.bytes_cons h).2 y hy

theorem xor_mod_256 (x y : Nat) : (x ^^^ y) % 256 = x % 256 ^^^ y % 256 := Nat.xor_mod_two_pow (n := 8)
theorem xor_div_256 (x y : Nat) : (x ^^^ y) / 256 = x / 256 ^^^ y / 256 := Nat.xor_div_two_pow (n := 8)

/-- one bit turned. -/
theorem xb_bit : ∀ (zs : List Int) (v m : Nat), m < 8 * zs.length →
    xb zs (v ^^^ 2 ^ m) = (xb zs v).set (m / 8) ((((xb zs v).getD (m / 8) 0).toNat ^^^ 2 ^ (m % 8) : Nat) : Int)
  | [], v, m, h => by simp at h
  | z :: zs, v, m, h => by
    rcases Nat.lt_or_ge m 8 with hm | hm
    · have h1 : m / 8 = 0 := by omega
      have h2 : m % 8 = m := by omega
      have h3 : 2 ^ m < 256 := by
        have := Nat.pow_le_pow_right (n := 2) (by decide) (show m ≤ 7 by omega)
        omega
      rw [h1, h2, xb, xb, xor_mod_256, xor_div_256, Nat.mod_eq_of_lt h3, Nat.div_eq_of_lt h3, Nat.xor_zero]
      simp [Nat.xor_assoc]
    · obtain ⟨q, rfl⟩ : ∃ q, m = q + 8 := ⟨m - 8, by omega⟩
      have h1 : (q + 8) / 8 = q / 8 + 1 := by omega
      have h2 : (q + 8) % 8 = q % 8 := by omega
      have h3 : 2 ^ (q + 8) % 256 = 0 := by rw [Nat.pow_add]; exact Nat.mul_mod_left _ _
      have h4 : 2 ^ (q + 8) / 256 = 2 ^ q := by rw [Nat.pow_add]; exact Nat.mul_div_left _ (by decide)
      have hq : q < 8 * zs.length := by simp at h; omega
      rw [h1, h2, xb, xb, xor_mod_256, xor_div_256, h3, h4, Nat.xor_zero, xb_bit zs (v / 256) q hq]
      simp

theorem reg_xb : ∀ (zs : List Int) (v x y : Nat), reg x zs ^^^ reg y (xb zs v) = feed (x ^^^ y) (bytesOf v zs.length)
  | [], v, x, y => rfl
  | z :: zs, v, x, y => by
    rw [xb, reg_cons, reg_cons, reg_xb zs (v / 256), ← steps_xor]
    show feed _ _ = feed (steps ((x ^^^ y) ^^^ v % 256) 8) (bytesOf (v / 256) zs.length)
    congr 2
    rw [Int.toNat_natCast]
    have e : ∀ a b c d : Nat, (a ^^^ b) ^^^ (c ^^^ (b ^^^ d)) = (a ^^^ c) ^^^ d := fun a b c d => by
      rw [← Nat.xor_assoc c b d, Nat.xor_comm c b, Nat.xor_assoc b c d, Nat.xor_assoc a b, ← Nat.xor_assoc b b, Nat.xor_self, Nat.zero_xor, Nat.xor_assoc]
    exact e _ _ _ _

theorem two_regs (p q c : Nat) (hp : p < c + 1) (hq : q < c + 1) (h : c - p = c - q) : p = q := by omega

/-- up to 32 bits side by side turned: another sum. -/
theorem sums_apart (zs : List Int) (k wi : Nat) (hz : Nums.Bytes zs) (hw : wi < 4294967296) (h0 : wi ≠ 0) (hk : k + 32 ≤ 8 * zs.length) : sum zs ≠ sum (xb zs (2 ^ k * wi)) := by
  intro e
  have h1 := reg_lt zs (x := 4294967295) hz (by decide)
  have h2 := reg_lt _ (x := 4294967295) (xb_bytes zs (2 ^ k * wi) hz) (by decide)
  have e2 := two_regs _ _ _ h1 h2 e
  have e3 := reg_xb zs (2 ^ k * wi) 4294967295 4294967295
  rw [← e2, Nat.xor_self, Nat.xor_self] at e3
  exact burst_pos zs.length k wi hw h0 hk e3.symm

/-- the first bits of a number, one more. -/
theorem low_on (k wi i : Nat) (h : wi / 2 ^ i % 2 = 1) : 2 ^ k * (wi % 2 ^ (i + 1)) = (2 ^ k * (wi % 2 ^ i)) ^^^ 2 ^ (k + i) := by
  apply Nat.eq_of_testBit_eq
  intro j
  rw [Nat.testBit_xor, Nat.testBit_two_pow_mul, Nat.testBit_two_pow_mul, Nat.testBit_two_pow, Nat.testBit_mod_two_pow, Nat.testBit_mod_two_pow]
  by_cases hj : k ≤ j
  · by_cases he : j - k = i
    · have hji : k + i = j := by omega
      have hb : wi.testBit (j - k) = true := by rw [he, Nat.testBit_eq_decide_div_mod_eq, h]; rfl
      simp [hj, hji, he, hb] at *
      rw [hb]
    · have hji : ¬ k + i = j := by omega
      have hiff : j - k < i + 1 ↔ j - k < i := by omega
      simp [hj, hji, hiff]
  · have hji : ¬ k + i = j := by omega
    simp [hj, hji]
theorem low_same (k wi i : Nat) (h : wi / 2 ^ i % 2 = 0) : wi % 2 ^ (i + 1) = wi % 2 ^ i := by
  rw [Nat.pow_succ, Nat.mod_mul, h, Nat.mul_zero, Nat.add_zero]
end Crc
end Go.Proofs.Ytmildaofmgeceaa
