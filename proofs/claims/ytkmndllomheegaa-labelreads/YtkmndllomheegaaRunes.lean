/-
  A range over a string: one round.
-/
import Derived.Test.YtkmndllomheegaaGround
import Derived.Lib.DecodeN
import Derived.Lib.OthersKept
namespace Go.Proofs.Ytkmndllomheegaa
set_option linter.unusedVariables false
set_option linter.unusedSimpArgs false
open Go.RowKit

theorem decodeN_high (n b0 b1 b2 b3 : Nat) (hn : 1 ≤ n) (h : 128 ≤ b0) (h0 : b0 < 256) : 128 ≤ (Lib.decodeN n b0 b1 b2 b3).1 ∧ (Lib.decodeN n b0 b1 b2 b3).1 ≤ 1114111 ∧ 1 ≤ (Lib.decodeN n b0 b1 b2 b3).2 ∧ (Lib.decodeN n b0 b1 b2 b3).2 ≤ n := by
  unfold Lib.decodeN
  repeat' split
  all_goals (refine ⟨?_, ?_, ?_, ?_⟩ <;> simp only <;> omega)

theorem get_at (s : ByteArray) (pos : Nat) (h : pos < s.size) : s.get! pos = s[pos]'h := by
  simp [ByteArray.get!, getElem!_pos, h]
  rfl

theorem decode_high (s : ByteArray) (pos : Nat) (h : pos < s.size) (hb : 128 ≤ (s[pos]'h).toNat) :
    128 ≤ (Utf8.decode s pos).1 ∧ (Utf8.decode s pos).1 ≤ 1114111 ∧ 1 ≤ (Utf8.decode s pos).2 ∧ pos + (Utf8.decode s pos).2 ≤ s.size := by
  rw [Lib.decode_at]
  have hl := (s[pos]'h).toNat_lt
  have e := decodeN_high (s.size - pos) (s.get! pos).toNat (s.get! (pos + 1)).toNat (s.get! (pos + 2)).toNat (s.get! (pos + 3)).toNat (by omega) (by rw [get_at s pos h]; exact hb) (by rw [get_at s pos h]; exact hl)
  omega

/-- what a round of 'for i, r := range s' brings: the octet itself below 128, else a rune from 128 on. -/
theorem next_round (l : List Int) (hz : Nums.Bytes l) (W : World) (g pos : Nat) (hk : W.heap[g]? = some (.stringIter (strOfNums l) pos)) (hp : pos < l.length) :
    ∃ r wd : Nat, (∀ ty, (Instr.next (.pointer (some ⟨g, 0, none⟩)) true ty).run Try.prog W = .ok (.tuple #[.bool true, .int .i64 pos, .int .i32 r]) (W.iterAt g (strOfNums l) (pos + wd))) ∧
      1 ≤ wd ∧ pos + wd ≤ l.length ∧ r ≤ 1114111 ∧ ((l[pos] < 128 ∧ (r : Int) = l[pos] ∧ wd = 1) ∨ (128 ≤ l[pos] ∧ 128 ≤ r)) := by
  have hs : pos < (strOfNums l).size := by rw [size_str]; exact hp
  have e := str_at l pos hp hz hs
  have hb := hz _ (List.getElem_mem hp)
  by_cases h : ((strOfNums l)[pos]'hs).toNat < 128
  · exact ⟨((strOfNums l)[pos]'hs).toNat, 1, fun ty => Lib.run_next_ascii_at W g _ pos ty hk hs h, Nat.le_refl _, by omega, by omega, .inl ⟨by omega, e, rfl⟩⟩
  · obtain ⟨h1, h2, h3, h4⟩ := decode_high (strOfNums l) pos hs (by omega)
    rw [size_str] at h4
    exact ⟨_, _, fun ty => Lib.run_next_any_at W g _ pos ty hk hs, h3, h4, h2, .inr ⟨by omega, h1⟩⟩

theorem next_end (S : ByteArray) (W : World) (g pos : Nat) (hk : W.heap[g]? = some (.stringIter S pos)) (hp : ¬ pos < S.size) :
    ∀ ty, (Instr.next (.pointer (some ⟨g, 0, none⟩)) true ty).run Try.prog W = .ok (.tuple #[.bool false]) W := fun ty => Lib.run_next_end_at W g S pos ty hk hp
end Go.Proofs.Ytkmndllomheegaa
