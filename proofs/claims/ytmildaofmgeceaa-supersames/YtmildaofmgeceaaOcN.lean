/-
  The document's Number (layer 1): what it answers.
-/
import Derived.Test.YtmildaofmgeceaaOcAll
namespace Go.Proofs.Ytmildaofmgeceaa
set_option linter.unusedVariables false
set_option linter.unusedSimpArgs false
open Go.RowKit

theorem rd_lt_7 (l : List Int) (h : Nums.Bytes l) (hl : l.length ≤ 7) : Nums.rd l < 72057594037927936 := by
  have hb := (Nums.rd_bounds l h).2
  have hq : (256 : Int) ^ l.length ≤ 256 ^ 7 := by
    rw [show (256 : Int) ^ l.length = ((256 ^ l.length : Nat) : Int) from (Int.natCast_pow 256 l.length).symm, show (256 : Int) ^ 7 = ((256 ^ 7 : Nat) : Int) from rfl]
    exact Int.ofNat_le.2 (Nat.pow_le_pow_right (by decide) hl)
  omega

theorem number_step (zs : List Int) (hz : Nums.Bytes zs) (j : Nat) (hj : j < zs.length) (h8 : j < 8) (y : Int) (hy : Nums.rd ((zs.take 8).drop (j + 1)) = y) (h0 : 0 ≤ y) (h1 : y < 72057594037927936) :
    IntKind.u64.wrap (y * 256 + IntKind.u64.wrap zs[j]) = Nums.rd ((zs.take 8).drop j) := by
  have hb := hz _ (List.getElem_mem hj)
  have e : (zs.take 8).drop j = zs[j] :: (zs.take 8).drop (j + 1) := by
    rw [List.drop_eq_getElem_cons (by simp; omega)]
    simp
  rw [e, Nums.rd, hy, IntKind.wrap_u64, IntKind.wrap_u64]
  omega

set_option maxHeartbeats 1000000 in
theorem number_any (zs : List Int) (w : World) (hl : zs.length ≤ maxLen) (hz : Nums.Bytes zs) :
    Calls Try.prog 50 #[.string (strOfNums zs)] w fun e w' => e = .returned (.int .u64 (Nums.rd (zs.take 8))) ∧ w' = w := by
  unfold maxLen at hl
  have hsz := size_str zs
  have hat := str_at zs
  generalize hS : strOfNums zs = S at *
  have HS := hide hS
  clear hS
  have hsz' : S.size ≤ 9223372036854775807 := by omega
  have HSZ := hide hsz
  clear hsz
  go_enter Try.func50, Try.ntmps50
  go_wp2
  go_loop [3, 4] (fun v i => ∃ k : Nat, k ≤ S.size ∧ i = .int .i64 ((k : Int) - 1) ∧ v = .int .u64 (Nums.rd ((zs.take 8).drop k))) (fun _ i => (intOf i + 1).toNat)
  case atStart => exact ⟨S.size, Nat.le_refl _, rfl, by
    have := HSZ.out
    rw [List.drop_of_length_le (by simp; omega)]; rfl⟩
  case round =>
    obtain ⟨k, hk, rfl, rfl⟩ := hrel
    have hbd := Nums.rd_bounds _ (Nums.bytes_drop (Nums.bytes_take hz 8) k)
    by_cases h0 : k = 0
    · subst h0
      go_wp2
      go_ret
      exact ⟨rfl, rfl⟩
    · obtain ⟨j, rfl⟩ : ∃ j, k = j + 1 := ⟨k - 1, by omega⟩
      have e1 : ((j + 1 : Nat) : Int) - 1 = (j : Int) := by omega
      rw [e1]
      by_cases h8 : j < 8
      · have hj : j < zs.length := by have := HSZ.out; omega
        have hjs : j < S.size := by omega
        have hzj := hat j hj hz hjs
        generalize hY : Nums.rd ((zs.take 8).drop (j + 1)) = y at *
        have HY := hide hY
        clear hY
        have hi8 : (j : Int) < 8 := by omega
        have hlen : ((zs.take 8).drop (j + 1)).length ≤ 7 := by simp; omega
        have hy0 : 0 ≤ y := hbd.1
        have hy1 : y < 72057594037927936 := by rw [← HY.out]; exact rd_lt_7 _ (Nums.bytes_drop (Nums.bytes_take hz 8) _) hlen
        have HN := hide (number_step zs hz j hj h8 y HY.out hy0 hy1)
        go_wp2
        go_round
        case rel => exact ⟨j, by omega, rfl, by rw [HN.out]⟩
        case measure => simp [intOf]
      · have hi8 : ¬ (j : Int) < 8 := by omega
        have HD : Hid (Nums.rd ((zs.take 8).drop (j + 1)) = Nums.rd ((zs.take 8).drop j)) := by
          show _ = _
          rw [List.drop_of_length_le (by simp; omega), List.drop_of_length_le (by simp; omega)]
        go_wp2
        go_round
        case rel => exact ⟨j, by omega, rfl, by rw [HD.out]⟩
        case measure => simp [intOf]

end Go.Proofs.Ytmildaofmgeceaa
