/-
  Plain geometries: how many charts, leaves, fans; the bound.
-/
import Derived.Test.YtmildaofmgeceaaGround
namespace Go.Proofs.Ytmildaofmgeceaa
set_option linter.unusedVariables false
set_option linter.unusedSimpArgs false
namespace Gm

/-- how many of so much make n. -/
def need (n each : Nat) : Nat := (n + (each - 1)) / each
def right (b s g : Int) : Bool := decide ((16 ≤ b ∧ b ≤ 3072) ∧ (1 ≤ s ∧ s ≤ 1792) ∧ (1 ≤ g ∧ g ≤ 4294967295))
def leaves (n : Nat) : Nat := need n 7
def fans (n : Nat) : Nat := if n = 0 then 0 else need (leaves n) 16 + 1
def charts (b : Nat) : Nat := need b 384
/-- what is told of any number of slots. -/
def leavesI (n : Int) : Nat := if 0 ≤ n ∧ n ≤ 1792 then leaves n.toNat else 0
def fansI (n : Int) : Nat := if 0 ≤ n ∧ n ≤ 1792 then fans n.toNat else 0
def chartsI (b s g : Int) : Nat := if right b s g = true then charts b.toNat else 0
def bound (b s g e : Int) : Int := if right b s g = true ∧ 0 ≤ e ∧ e ≤ s then 4 * (e + (leaves s.toNat : Nat) + (fans s.toNat : Nat) + (charts b.toNat : Nat) + 17) + 80 else 0
def fits (b s g e : Int) : Bool := decide (0 < bound b s g e ∧ bound b s g e ≤ b)

theorem need_stop {n each k : Nat} (he : 0 < each) (h : n ≤ k * each) (hk : ∀ i, i < k → i * each < n) : need n each = k := by
  unfold need
  rcases Nat.eq_zero_or_pos k with rfl | hp
  · have : n = 0 := by omega
    subst this
    rw [Nat.zero_add]
    exact Nat.div_eq_of_lt (by omega)
  · have h1 := hk (k - 1) (by omega)
    obtain ⟨m, rfl⟩ : ∃ m, k = m + 1 := ⟨k - 1, by omega⟩
    rw [Nat.add_sub_cancel] at h1
    rw [Nat.add_mul, Nat.one_mul] at h
    rw [Nat.div_eq_iff he]
    constructor <;> rw [Nat.add_mul, Nat.one_mul] <;> omega
theorem need_mono {n m each : Nat} (h : n ≤ m) : need n each ≤ need m each := Nat.div_le_div_right (by omega)
theorem leaves_mono {n m : Nat} (h : n ≤ m) : leaves n ≤ leaves m := need_mono h
theorem fans_mono {n m : Nat} (h : n ≤ m) : fans n ≤ fans m := by
  unfold fans
  split
  · omega
  · rw [if_neg (by omega)]
    have := need_mono (each := 16) (leaves_mono h)
    omega
theorem leaves_le {n : Nat} (h : n ≤ 1792) : leaves n ≤ 256 := by unfold leaves need; omega
theorem fans_le {n : Nat} (h : n ≤ 1792) : fans n ≤ 17 := by
  unfold fans leaves need
  split <;> omega
theorem charts_le {b : Nat} (h : b ≤ 3072) : charts b ≤ 8 := by unfold charts need; omega
end Gm
end Go.Proofs.Ytmildaofmgeceaa
