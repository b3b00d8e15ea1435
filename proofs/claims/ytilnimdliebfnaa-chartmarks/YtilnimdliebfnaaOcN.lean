/-
  The document's Number (layer 1): what it answers.
-/
import Derived.Test.YtilnimdliebfnaaOcAll
namespace Go.Proofs.Ytilnimdliebfnaa
set_option linter.unusedVariables false
set_option linter.unusedSimpArgs false
open Go.RowKit

theorem rd_lt_7 (l : List Int) (h : Nums.Bytes l) (hl : l.length ≤ 7) : Nums.rd l < 72057594037927936 := by
  have hb := (Nums.rd_bounds l h).2
  have hq : (256 : Int) ^ l.length ≤ 256 ^ 7 := by
    rw [show (256 : Int) ^ l.length = ((256 ^ l.length : Nat) : Int) from (Int.natCast_pow 256 l.length).symm, show (256 : Int) ^ 7 = ((256 ^ 7 : Nat) : Int) from rfl]
    exact Int.ofNat_le.2 (Nat.pow_le_pow_right (by decide) hl)
  omega

theorem number_step (zs : List Int) (hz : Nums.Bytes zs) (j : Nat) (hj : j < zs.length) (h8 : j < 8) (y : Int) (hy : Nums.rd ((zs.take 8).drop (j + 1)) = y) (h0 : 0 ≤ y) (h1 : y < 72057594037927936) :
    IntKind.u64.wrap (y * 256 + IntKind.u64.wrap zs[j]) = Nums.rd ((zs.take 8).drop j) := by
  have hb := hz _ (List.getElem_mem hj)
  have e : (zs.take 8).drop j = zs[j] :: (zs.take 8).drop (j + 1) := by
    rw [List.drop_eq_getElem_cons (by simp; omega)]
    simp
  rw [e, Nums.rd, hy, IntKind.wrap_u64, IntKind.wrap_u64]
  omega

end Go.Proofs.Ytilnimdliebfnaa
