/-
  octet.Read: what it answers.
-/
import Derived.Test.YtjkiehfjbldkkaaBase
namespace Go.Proofs.Ytjkiehfjbldkkaa
set_option linter.unusedVariables false
set_option linter.unusedSimpArgs false
open Go.RowKit

theorem take_snoc (zs : List Int) (k : Nat) (h : k < zs.length) : zs.take (k + 1) = zs.take k ++ [zs[k]] := by
  rw [List.take_succ_eq_append_getElem h]

theorem read_step (zs : List Int) (hz : Nums.Bytes zs) (k : Nat) (h : k < zs.length) (h8 : k < 8) :
    bits BinOp.or IntKind.u64 (Nums.rd (List.take k zs)) (IntKind.u64.wrap (IntKind.u64.wrap zs[k] * 2 ^ (8 * k))) = Nums.rd (List.take (k + 1) zs) := by
  have hb := Nums.rd_bounds _ (Nums.bytes_take hz k)
  have hl : (zs.take k).length = k := by simp; omega
  rw [hl] at hb
  have hzk := hz _ (List.getElem_mem h)
  rw [or_step _ _ k h8 hb.1 hb.2 hzk.1 hzk.2, take_snoc zs k h, Nums.rd_snoc, hl]

set_option maxHeartbeats 1000000 in
theorem read_any (a : Option Addr) (len cap : Nat) (zs : List Int) (w : World) (hl : len ≤ maxLen) (hr : Row .u8 w a len zs) (hz : Nums.Bytes zs) :
    Calls Try.prog 58 #[.slice a len cap] w fun e w' => e = .returned (.int .u64 (Nums.rd (zs.take 8))) ∧ w' = w := by
  unfold maxLen at hl
  obtain ⟨hlen, hr⟩ := hr
  go_enter Try.func58, Try.ntmps58
  go_wp2
  go_loop [3, 4] (fun v i => ∃ k : Nat, k ≤ len ∧ k ≤ 8 ∧ i = .int .i64 k ∧ v = .int .u64 (Nums.rd (zs.take k))) (fun _ i => 8 - (intOf i).toNat)
  case atStart => exact ⟨0, Nat.zero_le _, by omega, rfl, rfl⟩
  case round =>
    obtain ⟨k, hk, hk8, rfl, rfl⟩ := hrel
    by_cases hlt : k < len
    · have hi1 : (k : Int) < (len : Int) := by omega
      by_cases hlt8 : k < 8
      · rcases hr with hr | ⟨b, off, rfl, hbw, hc⟩
        · omega
        · have hck := hc k hlt
          have hi8 : (k : Int) < 8 := by omega
          have hkz : k < zs.length := by omega
          have HS := hide (read_step zs hz k hkz hlt8)
          go_wp2
          go_round
          case rel => exact ⟨k + 1, by omega, by omega, by go_num, by rw [unhide HS]⟩
          case measure => simp [intOf]; omega
      · have hi8 : ¬ (k : Int) < 8 := by omega
        obtain rfl : k = 8 := by omega
        go_wp2
        go_ret
        exact ⟨rfl, rfl⟩
    · have hi1 : ¬ (k : Int) < (len : Int) := by omega
      have HE : Hid (Nums.rd (zs.take k) = Nums.rd (zs.take 8)) := by
        show _ = _
        rw [List.take_of_length_le (by omega), List.take_of_length_le (by omega)]
      go_wp2
      go_ret
      exact ⟨by rw [← HE.out]; rfl, rfl⟩

end Go.Proofs.Ytjkiehfjbldkkaa
