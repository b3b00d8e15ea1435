/-
  The document's answers (layer 8): Ahead, Same; Ints, Int (layer 1).
-/
import Derived.Test.YtjehcgkmapapbaaNdNums
import Derived.Test.YtjehcgkmapapbaaOcN
import Derived.Test.YtjehcgkmapapbaaGround
namespace Go.Proofs.Ytjehcgkmapapbaa
set_option linter.unusedVariables false
set_option linter.unusedSimpArgs false
open Go.RowKit

theorem take_differ {L M : List Int} {j : Nat} (h : L.getD j 0 ≠ M.getD j 0) : L ≠ M := fun e => h (by rw [e])


set_option maxHeartbeats 400000 in
theorem rint_any (zs : List Int) (w : World) (hl : zs.length ≤ 8) (hz : Nums.Bytes zs) :
    Calls Try.prog 34 #[.string (strOfNums zs)] w fun e w' => e = .returned (.int .i64 (Nd.sgn (Nums.rd zs))) ∧ w' = w := by
  have hN := number_any zs w (by unfold maxLen; omega) hz
  rw [List.take_of_length_le hl] at hN
  have hb := Nums.rd_bounds zs hz
  have hp : (256 : Int) ^ zs.length ≤ 18446744073709551616 := by
    rw [show (256 : Int) ^ zs.length = ((256 ^ zs.length : Nat) : Int) from (Int.natCast_pow 256 _).symm]
    have := Nat.pow_le_pow_right (show 0 < 256 by decide) hl
    have e : (256 : Nat) ^ 8 = 18446744073709551616 := rfl
    omega
  have hw : IntKind.i64.wrap (Nums.rd zs) = Nd.sgn (Nums.rd zs) := by
    unfold Nd.sgn
    rw [IntKind.wrap_i64]
    split <;> omega
  have HN := hide hN
  clear hN hb hp
  generalize strOfNums zs = S at *
  generalize Nums.rd zs = r at *
  generalize Nd.sgn r = q at *
  go_enter Try.func34, Try.ntmps34
  go_wp2_with fail
  refine HN.out.mono ?_
  rintro e w' ⟨rfl, hw'⟩
  obtain rfl := hw'.symm
  go_wp2_with fail
  go_ret
  exact ⟨rfl, rfl⟩

theorem sgn_small {l : List Int} (hz : Nums.Bytes l) (hl : l.length ≤ 4) : Nd.sgn (Nums.rd l) = Nums.rd l := by
  have h := Nums.rd_bounds l hz
  have hq : (256 : Int) ^ l.length ≤ 256 ^ 4 := by
    rw [show (256 : Int) ^ l.length = ((256 ^ l.length : Nat) : Int) from (Int.natCast_pow 256 _).symm, show (256 : Int) ^ 4 = ((256 ^ 4 : Nat) : Int) from rfl]
    exact Int.ofNat_le.2 (Nat.pow_le_pow_right (by decide) hl)
  unfold Nd.sgn
  rw [if_pos (by omega)]

/-- a piece of a string, and the number that it is. -/
theorem piece (W : World) (s : List Int) (hz : Nums.Bytes s) (i n : Nat) (hn : n ≤ 4) : Calls Try.prog 34 #[.string ((strOfNums s).extract i (i + n))] W fun e w' => e = .returned (.int .i64 (Nums.rd ((s.drop i).take n))) ∧ w' = W := by
  rw [str_cut, Nat.add_sub_cancel_left]
  have h := rint_any ((s.drop i).take n) W (by simp; omega) (Nums.bytes_take (Nums.bytes_drop hz i) n)
  rw [sgn_small (Nums.bytes_take (Nums.bytes_drop hz i) n) (by simp; omega)] at h
  exact h
theorem piece8 (W : World) (s : List Int) (hz : Nums.Bytes s) (i n : Nat) (hn : n ≤ 8) : Calls Try.prog 34 #[.string ((strOfNums s).extract i (i + n))] W fun e w' => e = .returned (.int .i64 (Nd.sgn (Nums.rd ((s.drop i).take n)))) ∧ w' = W := by
  rw [str_cut, Nat.add_sub_cancel_left]
  exact rint_any ((s.drop i).take n) W (by simp; omega) (Nums.bytes_take (Nums.bytes_drop hz i) n)

/-- is an entry ahead of another one? (slot, gen, key of each) -/
def aheadB (s g k s' g' k' : Int) : Bool := if k = k' then (if s = s' then decide (g < g') else decide (s < s')) else decide (k < k')


/-- have two nodes the same entry? -/
def entryB (n m : Nd.N) : Bool := decide (n.slot = m.slot ∧ n.gen = m.gen ∧ n.key = m.key ∧ n.val = m.val)
theorem same_parts (n m : Nd.N) : Nd.same n m = (entryB n m && decide (n.kids = m.kids)) := by
  unfold Nd.same entryB
  rw [Bool.eq_iff_iff]
  simp only [Bool.and_eq_true, decide_eq_true_eq, and_assoc]


end Go.Proofs.Ytjehcgkmapapbaa
