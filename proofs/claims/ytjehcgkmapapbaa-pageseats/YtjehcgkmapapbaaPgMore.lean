/-
  Plain leaves and fans, more: when octets are a page's block, as the program asks.
-/
import Derived.Test.YtjehcgkmapapbaaPgNums
import Derived.Test.YtjehcgkmapapbaaNdMore
namespace Go.Proofs.Ytjehcgkmapapbaa
set_option linter.unusedVariables false
set_option linter.unusedSimpArgs false
namespace Pg

theorem leafTo_length (s : List Int) (t n : Nat) : (leafTo s t n).length = n := by simp [leafTo]
theorem tag_leafTo (s : List Int) (t : Nat) : ∀ n, tag (leafTo s t n) = t % 2 ^ n
  | 0 => by simp [leafTo, tag, Nat.mod_one]
  | n + 1 => by
    rw [leafTo_succ, tag_snoc, tag_leafTo s t n, leafTo_length, Nat.mod_pow_succ]
    congr 2
    have h : t / 2 ^ n % 2 < 2 := Nat.mod_lt _ (by decide)
    unfold bit seatAt
    by_cases e : t / 2 ^ n % 2 = 1
    · rw [e]; rfl
    · rw [show t / 2 ^ n % 2 = 0 by omega]; rfl
theorem seatsB_leafTo {s : List Int} (hs : Nums.Bytes s) (t : Nat) : ∀ n, 8 * n ≤ s.length → seatsB (leafTo s t n) = s.take (8 * n)
  | 0, _ => rfl
  | n + 1, h => by
    rw [leafTo_succ, seatsB_snoc, seatsB_leafTo hs t n (by omega)]
    show s.take (8 * n) ++ Nums.lay (Nums.rd ((s.drop (8 * n)).take 4)) 4 ++ Nums.lay (Nums.rd ((s.drop (8 * n + 4)).take 4)) 4 = _
    rw [Nd.lay_piece hs (8 * n) 4 (by omega), Nd.lay_piece hs (8 * n + 4) 4 (by omega), show 8 * (n + 1) = 8 * n + 4 + 4 by omega, List.take_add (i := 8 * n + 4), List.take_add (i := 8 * n)]
/-- a leaf's block, told as the program asks. -/
theorem got_asked {zs : List Int} (hz : Nums.Bytes zs) (hB : Bk.isB zs = true) (h4 : zs.getD 4 0 = 2) {t : Nat} (h5 : zs.getD 5 0 = (t : Int)) (ht : t < 128) : gotL zs = leafR (told zs) := by
  have hl := (of_decide_eq_true hB).1
  have hs := Nums.bytes_drop hz 8
  have hsl : (zs.drop 8).length = 56 := by simp; omega
  have hT : told zs = leafTo (zs.drop 8) t 7 := by unfold told; rw [h5, Int.toNat_natCast]
  have hbl : leaf (told zs) = zs := by
    unfold leaf
    rw [hT, tag_leafTo, seatsB_leafTo hs t 7 (by omega), Nat.mod_eq_of_lt (by omega), List.take_of_length_le (by omega)]
    have e := Bk.isB_same hB
    rw [h4, h5] at e
    refine Eq.trans ?_ e
    simp only [Bk.shut, Bk.mid]
  cases hq : leafR (told zs) with
  | true => exact decide_eq_true ⟨hB, h4, hq, hbl⟩
  | false =>
    refine decide_eq_false fun h => ?_
    rw [hq] at h
    exact absurd h.2.2.1 (by decide)

theorem fanTo_length (s : List Int) (n : Nat) : (fanTo s n).length = n := by simp [fanTo]
theorem kidsB_fanTo {s : List Int} (hs : Nums.Bytes s) : ∀ n, 2 * n ≤ s.length → Nd.kidsB (fanTo s n) = s.take (2 * n)
  | 0, _ => rfl
  | n + 1, h => by
    rw [fanTo_succ, Nd.kidsB_snoc, kidsB_fanTo hs n (by omega), Nd.lay_piece hs (2 * n) 2 (by omega), show 2 * (n + 1) = 2 * n + 2 by omega, List.take_add]
/-- a fan's block, told as the program asks. -/
theorem gotF_asked {zs : List Int} (hz : Nums.Bytes zs) (hB : Bk.isB zs = true) (h4 : zs.getD 4 0 = 3) (h5 : zs.getD 5 0 = 0) : gotF zs = (fanR (toldF zs) && zeroB ((zs.drop 8).drop 32)) := by
  have hl := (of_decide_eq_true hB).1
  have hs := Nums.bytes_drop hz 8
  have hsl : (zs.drop 8).length = 56 := by simp; omega
  have hbl : fan (toldF zs) = zs ↔ zeroB ((zs.drop 8).drop 32) = true := by
    rw [← Nd.fill_zero hsl (by omega : 32 ≤ 56)]
    unfold fan toldF
    rw [kidsB_fanTo hs 16 (by omega)]
    constructor
    · intro h
      have := (Bk.shut_parts (k := 3) (t := (0 : Int)) (body := (zs.drop 8).take (2 * 16))).2.2
      rw [h] at this
      exact this.symm
    · intro h
      have e := Bk.isB_same hB
      rw [h4, h5] at e
      refine Eq.trans ?_ e
      simp only [Bk.shut, Bk.mid]
      rw [h, Bk.fill_full hsl]
  cases hq : (fanR (toldF zs) && zeroB ((zs.drop 8).drop 32)) with
  | true =>
    obtain ⟨q1, q2⟩ := Bool.and_eq_true_iff.1 hq
    exact decide_eq_true ⟨hB, h4, q1, hbl.2 q2⟩
  | false =>
    refine decide_eq_false fun h => ?_
    obtain ⟨_, _, q1, q2⟩ := h
    rw [q1, hbl.1 q2] at hq
    exact absurd hq (by decide)
/-- a fan's block has the tag 0. -/
theorem gotF_tag {zs : List Int} (h : gotF zs = true) : zs.getD 5 0 = 0 := by
  have h8 := (of_decide_eq_true h).2.2.2
  have h5 := (Bk.shut_parts (k := 3) (t := (0 : Int)) (body := Nd.kidsB (toldF zs))).2.1
  unfold fan at h8
  rw [h8] at h5
  exact h5
end Pg
end Go.Proofs.Ytjehcgkmapapbaa
