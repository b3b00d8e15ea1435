/-
  octet.Words: what it answers.
-/
import Derived.Test.YtjkiehfjbldkkaaOcR
import Derived.Test.YtjkiehfjbldkkaaOcP
namespace Go.Proofs.Ytjkiehfjbldkkaa
set_option linter.unusedVariables false
set_option linter.unusedSimpArgs false
open Go.RowKit

theorem make_words (n : Nat) (h : n ≤ 35184372088832) (w : World) :
    (Instr.makeSlice 40 (.int .i64 (n : Int)) (.int .i64 (n : Int))).run Try.prog w = .ok (.slice (some ⟨w.heap.size, 0, none⟩) n n) (w.alloc (.cells (blk .u64 (List.replicate n 0)) 32)) := by
  have h := run_make_row' (P := Try.prog) 40 32 (.int .u64 0) 8 Try.underlying40 (by kernel_rfl) rfl .i64 .i64 n (by omega) (by omega) w
  rw [h, blk_made]

/-- the first k words of octets. -/
def wordsTo (zs : List Int) (k : Nat) : List Int := (List.range k).map fun i => Nums.rd ((zs.drop (8 * i)).take 8)
theorem length_wordsTo (zs : List Int) (k : Nat) : (wordsTo zs k).length = k := by simp [wordsTo]
theorem words_step (zs : List Int) (k n : Nat) (h : k < n) : (wordsTo zs k ++ List.replicate (n - k) 0).set k (Nums.rd ((zs.drop (8 * k)).take 8)) = wordsTo zs (k + 1) ++ List.replicate (n - (k + 1)) 0 := by
  obtain ⟨m, rfl⟩ : ∃ m, n = k + 1 + m := ⟨n - (k + 1), by omega⟩
  have e1 : k + 1 + m - k = m + 1 := by omega
  have e2 : k + 1 + m - (k + 1) = m := by omega
  rw [e1, e2, List.set_append_right _ _ (by simp [length_wordsTo])]
  simp [wordsTo, List.replicate_succ, List.range_succ]

set_option maxHeartbeats 1000000 in
theorem words_any (a : Option Addr) (len cap : Nat) (zs : List Int) (w : World) (hl : len ≤ 281474976710656) (hlc : len ≤ cap) (hr : Row .u8 w a len zs) (hz : Nums.Bytes zs) :
    Calls Try.prog 43 #[.slice a len cap] w fun e w' => e = .returned (.slice (some ⟨w.heap.size, 0, none⟩) (len / 8) (len / 8)) ∧ w' = w.alloc (.cells (blk .u64 (wordsTo zs (len / 8))) 32) := by
  have hmk := make_words (len / 8) (by omega)
  have hdiv : ((len / 8 : Nat) : Int) = (len : Int) / 8 := by omega
  rw [hdiv] at hmk
  have HR := hide hr
  clear hr hdiv
  go_enter Try.func43, Try.ntmps43
  go_wp2
  clear hmk
  go_loopw [11] (fun i wr => ∃ k : Nat, k ≤ len / 8 ∧ i = .int .i64 k ∧ wr = w.alloc (.cells (blk .u64 (wordsTo zs k ++ List.replicate (len / 8 - k) 0)) 32)) (fun i _ => len / 8 - (intOf i).toNat)
  case atStart => exact ⟨0, Nat.zero_le _, rfl, by simp [wordsTo]⟩
  case round =>
    obtain ⟨k, hk, rfl, rfl⟩ := hrel
    by_cases hlt : k < len / 8
    · have hi : (k : Int) < (len : Int) / 8 := by omega
      have hki : (8 : Int) * (k : Int) ≤ (len : Int) := by omega
      have hkn : ¬ cap = 8 * k := by omega
      obtain ⟨L, hL⟩ : ∃ L, L = wordsTo zs k ++ List.replicate (len / 8 - k) 0 := ⟨_, rfl⟩
      have hLl : L.length = len / 8 := by rw [hL]; simp [length_wordsTo]; omega
      rw [← hL]
      have HL := hide hL
      have hget := blk_get .u64 L k (by omega)
      clear hL
      have hrow := HR.out.below (w' := w.alloc (.cells (blk .u64 L) 32)) ((Below.refl _ _).alloc (Nat.le_refl _) _)
      obtain ⟨b, off, rfl, hcut⟩ := hrow.cut (8 * k) (len - 8 * k) (by omega) (by omega)
      have hrd := read_any (some ⟨b, off + 8 * k, none⟩) (len - 8 * k) (cap - 8 * k) _ _ (by unfold maxLen; omega) hcut (Nums.bytes_take (Nums.bytes_drop hz _) _)
      have hzl := HR.out.1
      rw [List.take_of_length_le (i := len - 8 * k) (by simp; omega)] at hrd
      have HRD := hide hrd
      have HZL := hide hzl
      clear hrd hcut hrow hzl
      generalize hY : Nums.rd ((zs.drop (8 * k)).take 8) = y at *
      have HY := hide hY
      clear hY
      go_wp2_with (go_at_call 58; refine (unhide HRD).mono ?_; rintro e w' ⟨rfl, hw'⟩; obtain rfl := hw'.symm)
      go_roundw
      case rel => exact ⟨k + 1, by omega, by go_num, by rw [blk_set, HL.out, ← HY.out, words_step zs k _ hlt]⟩
      case measure => simp [intOf]; omega
    · have hi : ¬ (k : Int) < (len : Int) / 8 := by omega
      obtain rfl : k = len / 8 := by omega
      go_wp2
      go_ret
      exact ⟨rfl, by simp⟩

end Go.Proofs.Ytjkiehfjbldkkaa
