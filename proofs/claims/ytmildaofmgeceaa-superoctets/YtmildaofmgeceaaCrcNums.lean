/-
  Plain facts on registers of 32 bits, their steps, and the sums of octets: no program is named here.
-/
import Derived.WalkKit
namespace Go.Proofs.Ytmildaofmgeceaa
set_option linter.unusedVariables false
set_option linter.unusedSimpArgs false
namespace Crc

/-- A step of a register. -/
def step (x : Nat) : Nat := if x % 2 = 1 then x / 2 ^^^ 2197175160 else x / 2
def steps : Nat → Nat → Nat
  | x, 0 => x
  | x, n + 1 => steps (step x) n

theorem step_xor (a b : Nat) : step (a ^^^ b) = step a ^^^ step b := by
  have hm : (a ^^^ b) % 2 = (a + b) % 2 := by
    have h : (a ^^^ b) % 2 = (a % 2) ^^^ (b % 2) := Nat.xor_mod_two_pow (n := 1)
    rcases Nat.mod_two_eq_zero_or_one a with ha | ha <;> rcases Nat.mod_two_eq_zero_or_one b with hb | hb <;> rw [h, Nat.add_mod, ha, hb] <;> rfl
  have hd : (a ^^^ b) / 2 = a / 2 ^^^ b / 2 := Nat.xor_div_two
  unfold step
  rw [hm, hd]
  by_cases ha : a % 2 = 1 <;> by_cases hb : b % 2 = 1
  · rw [if_neg (by omega), if_pos ha, if_pos hb]
    rw [Nat.xor_assoc, Nat.xor_comm 2197175160, Nat.xor_assoc, Nat.xor_self, Nat.xor_zero]
  · rw [if_pos (by omega), if_pos ha, if_neg hb]
    rw [Nat.xor_assoc, Nat.xor_assoc, Nat.xor_comm (b / 2)]
  · rw [if_pos (by omega), if_neg ha, if_pos hb, Nat.xor_assoc]
  · rw [if_neg (by omega), if_neg ha, if_neg hb]

theorem steps_xor : ∀ (n a b : Nat), steps (a ^^^ b) n = steps a n ^^^ steps b n
  | 0, _, _ => rfl
  | n + 1, a, b => by rw [steps, steps, steps, step_xor, steps_xor n]

theorem steps_add : ∀ (m n x : Nat), steps x (m + n) = steps (steps x m) n
  | 0, n, x => by rw [Nat.zero_add]; rfl
  | m + 1, n, x => by rw [Nat.succ_add, steps, steps_add m, steps]

theorem step_zero : step 0 = 0 := rfl
theorem steps_zero : ∀ n, steps 0 n = 0
  | 0 => rfl
  | n + 1 => by rw [steps, step_zero, steps_zero n]

theorem step_lt {x : Nat} (h : x < 4294967296) : step x < 4294967296 := by
  unfold step
  split
  · exact Nat.xor_lt_two_pow (n := 32) (show x / 2 < 2 ^ 32 by omega) (by decide)
  · omega
theorem steps_lt : ∀ (n : Nat) {x : Nat}, x < 4294967296 → steps x n < 4294967296
  | 0, _, h => h
  | n + 1, _, h => steps_lt n (step_lt h)

theorem xor_zero_eq {a b : Nat} (h : a ^^^ b = 0) : a = b := by
  have h1 : a ^^^ b ^^^ b = 0 ^^^ b := by rw [h]
  rw [Nat.xor_assoc, Nat.xor_self, Nat.xor_zero, Nat.zero_xor] at h1
  exact h1

theorem step_pos {x : Nat} (h : x < 4294967296) (h0 : x ≠ 0) : step x ≠ 0 := by
  unfold step
  split
  · intro e
    have := xor_zero_eq e
    omega
  · omega
theorem steps_pos : ∀ (n : Nat) {x : Nat}, x < 4294967296 → x ≠ 0 → steps x n ≠ 0
  | 0, _, _, h => h
  | n + 1, _, h, h0 => steps_pos n (step_lt h) (step_pos h h0)

theorem step_even (y : Nat) : step (2 * y) = y := by
  unfold step
  rw [if_neg (by omega)]
  omega
theorem steps_shift : ∀ (k y : Nat), steps (2 ^ k * y) k = y
  | 0, y => by simp [steps]
  | k + 1, y => by
    rw [steps, Nat.pow_succ, Nat.mul_comm (2 ^ k) 2, Nat.mul_assoc, step_even, steps_shift k]

theorem split_pow (k x : Nat) : x = 2 ^ k * (x / 2 ^ k) ^^^ x % 2 ^ k := by
  apply Nat.eq_of_testBit_eq
  intro i
  rw [Nat.testBit_xor, Nat.testBit_two_pow_mul, Nat.testBit_div_two_pow, Nat.testBit_mod_two_pow]
  by_cases h : i < k
  · have : ¬ k ≤ i := by omega
    simp [h, this]
  · have : k ≤ i := by omega
    simp [h, this]

/-- k steps: what lies above moves down, what lies below is looked up. -/
theorem steps_split (k x : Nat) : steps x k = x / 2 ^ k ^^^ steps (x % 2 ^ k) k := by
  conv => lhs; rw [split_pow k x]
  rw [steps_xor, steps_shift]

/-- An octet, taken by the table (of what four steps make of each half octet). -/
theorem take_steps (x : Nat) : (x / 16 ^^^ steps (x % 16) 4) / 16 ^^^ steps ((x / 16 ^^^ steps (x % 16) 4) % 16) 4 = steps x 8 := by
  have h := steps_split 4
  simp only [show 2 ^ 4 = 16 from rfl] at h
  rw [← h x, ← h (steps x 4), ← steps_add 4 4 x]

/-- the register behind octets, from a register on. -/
def reg (x : Nat) (l : List Int) : Nat := l.foldl (fun r z => steps (r ^^^ z.toNat) 8) x
def sum (l : List Int) : Nat := 4294967295 - reg 4294967295 l

theorem reg_append (x : Nat) (l m : List Int) : reg x (l ++ m) = reg (reg x l) m := by simp [reg]
theorem reg_cons (x : Nat) (z : Int) (l : List Int) : reg x (z :: l) = reg (steps (x ^^^ z.toNat) 8) l := rfl

theorem reg_lt : ∀ (l : List Int) {x : Nat}, (∀ z ∈ l, 0 ≤ z ∧ z ≤ 255) → x < 4294967296 → reg x l < 4294967296
  | [], _, _, h => h
  | z :: l, x, hb, h => by
    rw [reg_cons]
    refine reg_lt l (fun y hy => hb y (by simp [hy])) (steps_lt 8 ?_)
    have hz := hb z (by simp)
    exact Nat.xor_lt_two_pow (n := 32) h (show z.toNat < 2 ^ 32 by omega)

theorem turn_eq {x : Nat} (h : x < 4294967296) : 4294967295 - x = 4294967295 ^^^ x := by
  have h1 : 4294967295 ^^^ x = 2 ^ 32 - 1 - x := by
    apply Nat.eq_of_testBit_eq
    intro i
    rw [show (4294967295 : Nat) = 2 ^ 32 - 1 from rfl, Nat.testBit_xor, Nat.testBit_two_pow_sub_one]
    rw [show 2 ^ 32 - 1 - x = 2 ^ 32 - (x + 1) by omega, Nat.testBit_two_pow_sub_succ (by exact h)]
    by_cases hi : i < 32
    · simp [hi]
    · have : x.testBit i = false := Nat.testBit_lt_two_pow (Nat.lt_of_lt_of_le h (show 4294967296 ≤ 2 ^ i from Nat.pow_le_pow_right (n := 2) (i := 32) (by decide) (by omega)))
      simp [hi, this]
  rw [h1]

/-- registers that differ by d, fed with octets that differ: so differ the ends. -/
theorem reg_diff : ∀ (l m : List Int) (x y : Nat), l.length = m.length →
    reg x l ^^^ reg y m = (List.zip l m).foldl (fun r p => steps (r ^^^ (p.1.toNat ^^^ p.2.toNat)) 8) (x ^^^ y)
  | [], [], x, y, _ => rfl
  | a :: l, b :: m, x, y, h => by
    rw [reg_cons, reg_cons, reg_diff l m _ _ (by simpa using h), List.zip_cons_cons, List.foldl_cons, ← steps_xor]
    congr 2
    show x ^^^ a.toNat ^^^ (y ^^^ b.toNat) = x ^^^ y ^^^ (a.toNat ^^^ b.toNat)
    rw [Nat.xor_assoc, Nat.xor_assoc, ← Nat.xor_assoc a.toNat, Nat.xor_comm a.toNat y, Nat.xor_assoc y]

/-- octets (as plain numbers) fed into a register. -/
def feed (x : Nat) (ds : List Nat) : Nat := ds.foldl (fun r d => steps (r ^^^ d) 8) x
/-- the first n octets of a number, of whatever size. -/
def bytesOf : Nat → Nat → List Nat
  | _, 0 => []
  | v, n + 1 => v % 256 :: bytesOf (v / 256) n

/-- a text is one great number: its octets are fed by as many steps as it has bits. -/
theorem feed_bytes : ∀ (n x v : Nat), v < 256 ^ n → feed x (bytesOf v n) = steps (x ^^^ v) (8 * n)
  | 0, x, v, h => by
    have : v = 0 := by simpa using h
    subst this
    rw [Nat.xor_zero]
    rfl
  | n + 1, x, v, h => by
    have hv : v / 256 < 256 ^ n := by
      rw [Nat.pow_succ] at h
      exact Nat.div_lt_of_lt_mul (by rw [Nat.mul_comm]; exact h)
    have ih := feed_bytes n (steps (x ^^^ v % 256) 8) (v / 256) hv
    have e : steps (x ^^^ v) 8 = steps (x ^^^ v % 256) 8 ^^^ v / 256 := by
      have h8 := split_pow 8 v
      rw [show 2 ^ 8 = 256 from rfl] at h8
      have hs := steps_shift 8 (v / 256)
      rw [show 2 ^ 8 = 256 from rfl] at hs
      conv => lhs; rw [h8]
      rw [Nat.xor_comm (256 * (v / 256)), ← Nat.xor_assoc, steps_xor, hs]
    show feed (steps (x ^^^ v % 256) 8) (bytesOf (v / 256) n) = _
    rw [ih, ← e, ← steps_add, show 8 + 8 * n = 8 * (n + 1) by omega]

/-- up to 32 bits side by side: the register that is fed with them is not 0 behind them. -/
theorem burst_pos (n k w : Nat) (hw : w < 4294967296) (hw0 : w ≠ 0) (hk : k + 32 ≤ 8 * n) : feed 0 (bytesOf (2 ^ k * w) n) ≠ 0 := by
  have hlt : 2 ^ k * w < 256 ^ n := by
    have h1 : 2 ^ k * w < 2 ^ k * 2 ^ 32 := Nat.mul_lt_mul_of_pos_left (show w < 2 ^ 32 from hw) (Nat.pow_pos (by decide))
    rw [← Nat.pow_add] at h1
    have h2 : 2 ^ (k + 32) ≤ 2 ^ (8 * n) := Nat.pow_le_pow_right (by decide) hk
    rw [Nat.pow_mul] at h2
    exact Nat.lt_of_lt_of_le h1 h2
  rw [feed_bytes n 0 _ hlt, Nat.zero_xor, show 8 * n = k + (8 * n - k) by omega, steps_add, steps_shift]
  exact steps_pos _ hw hw0
end Crc
end Go.Proofs.Ytmildaofmgeceaa
