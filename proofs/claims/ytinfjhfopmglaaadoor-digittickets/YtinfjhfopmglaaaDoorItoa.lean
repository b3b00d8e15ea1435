/-
  strconv.Itoa: a number's text (a seat whose road goes through strconv: <Name>Shelf is laid by the shelf's two tools).
-/
import Derived.Test.YtinfjhfopmglaaaDoorStrs
import Derived.Test.YtinfjhfopmglaaaDoorDigNums
import Derived.Test.YtinfjhfopmglaaaDoorTabs
import Derived.Test.YtinfjhfopmglaaaDoorShelf
namespace Go.Proofs.YtinfjhfopmglaaaDoor
set_option linter.unusedVariables false
set_option linter.unusedSimpArgs false
open Go.RowKit

theorem dec_dg : ∀ (k u : Nat), u < 10 ^ k → u ≠ 0 → (Dig.dg k u).map (fun n : Int => UInt8.ofNat n.toNat) = Lib.decDigits u
  | 0, u, h, h0 => by simp at h; exact absurd h h0
  | k + 1, u, h, h0 => by
    rw [Dig.dg_pos _ _ h0, List.map_append, Lib.decDigits]
    by_cases h1 : u < 10
    · rw [dif_pos h1, show u / 10 = 0 by omega, Dig.dg_zero, show u % 10 = u by omega, List.map_nil, List.nil_append, List.map_singleton, Int.toNat_natCast]
    · rw [dif_neg h1, dec_dg k (u / 10) (by rw [Nat.pow_succ] at h; omega) (by omega), List.map_singleton, Int.toNat_natCast]

theorem itoa_text {n : Int} (h : Dig.fits n) : (⟨(Lib.itoa n).toArray⟩ : ByteArray) = strOfNums (Dig.text n) := by
  unfold strOfNums
  congr 2
  have hl := Dig.abs_lt h
  rcases Int.lt_trichotomy n 0 with hn | hn | hn
  · rw [Dig.text_neg hn, List.map_cons, dec_dg 19 _ hl (by omega)]
    unfold Lib.itoa
    rw [if_pos hn]
    rfl
  · subst hn
    unfold Lib.itoa
    rw [if_neg (by omega), Dig.text_zero, Lib.decDigits]
    rfl
  · rw [Dig.text_pos hn, dec_dg 19 _ hl (by omega)]
    unfold Lib.itoa
    rw [if_neg (by omega), show n.toNat = n.natAbs by omega]

theorem itoa_any (n : Int) (w : World) (ht : Tabs w) (h : Dig.fits n) :
    Calls Tryd.prog 17 #[.int .i64 n] w fun e w' => e = .returned (.string (strOfNums (Dig.text n))) ∧ Below w.heap.size w w' := by
  refine (Tryd.strconv_Itoa n h.1 h.2 w ht).mono fun e w' ⟨he, k, os, hw⟩ => ?_
  rw [itoa_text h] at he
  subst hw
  exact ⟨he, Lib.below_grow _ w (Nat.le_refl _) k os⟩
end Go.Proofs.YtinfjhfopmglaaaDoor
