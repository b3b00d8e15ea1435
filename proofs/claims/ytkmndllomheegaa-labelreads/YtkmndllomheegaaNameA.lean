/-
  The document's follows and First (a text's first rune): what each answers.
-/
import Derived.Test.YtkmndllomheegaaGround
import Derived.Test.YtkmndllomheegaaRunes
import Derived.BigQuiet
namespace Go.Proofs.Ytkmndllomheegaa
set_option linter.unusedVariables false
set_option linter.unusedSimpArgs false
open Go.RowKit

/-- is the octet at a place one from lo to hi? -/
def fol (l : List Int) (at' : Nat) (lo hi : Int) : Bool := decide (at' < l.length ∧ lo ≤ l.getD at' 0 ∧ l.getD at' 0 ≤ hi)

theorem follows_any (l : List Int) (at' : Nat) (lo hi : Int) (w : World) (hz : Nums.Bytes l) (hm : l.length ≤ 1000000) (ha : at' ≤ 10) :
    Calls Try.prog 63 #[.string (strOfNums l), .int .i64 at', .int .u8 lo, .int .u8 hi] w fun e w' => e = .returned (.bool (fol l at' lo hi)) ∧ w' = w := by
  have hsz := size_str l
  have hat := str_at l
  generalize strOfNums l = S at *
  by_cases h1 : at' < l.length
  · have hi1 : (at' : Int) < (S.size : Int) := by omega
    have hzk := hat at' h1 hz (by omega)
    have hg : l.getD at' 0 = l[at'] := by simp [h1]
    obtain ⟨z, hzz⟩ : ∃ z : Int, l[at'] = z := ⟨_, rfl⟩
    have hb := hz _ (List.getElem_mem h1)
    rw [hzz] at hzk hg hb
    clear hat
    by_cases h2 : lo ≤ z
    · by_cases h3 : z ≤ hi
      · have HF : Hid (fol l at' lo hi = true) := by show _ = _; unfold fol; rw [hg]; simp [h1, h2, h3]
        go_enter Try.func63, Try.ntmps63
        go_wp2
        go_ret
        exact ⟨by rw [HF.out]; rfl, rfl⟩
      · have HF : Hid (fol l at' lo hi = false) := by show _ = _; unfold fol; rw [hg]; simp; omega
        go_enter Try.func63, Try.ntmps63
        go_wp2
        go_ret
        exact ⟨by rw [HF.out]; rfl, rfl⟩
    · have HF : Hid (fol l at' lo hi = false) := by show _ = _; unfold fol; rw [hg]; simp; omega
      go_enter Try.func63, Try.ntmps63
      go_wp2
      go_ret
      exact ⟨by rw [HF.out]; rfl, rfl⟩
  · have HF : Hid (fol l at' lo hi = false) := by show _ = _; unfold fol; simp; omega
    have hi1 : ¬ (at' : Int) < (S.size : Int) := by omega
    clear hat
    go_enter Try.func63, Try.ntmps63
    go_wp2
    go_ret
    exact ⟨by rw [HF.out]; rfl, rfl⟩

/-- a text's first rune, and how many octets it has. -/
def dec (l : List Int) : Nat × Nat := Lib.decodeN l.length (l.getD 0 0).toNat (l.getD 1 0).toNat (l.getD 2 0).toNat (l.getD 3 0).toNat
theorem dec_decode (l : List Int) (pos : Nat) (hz : Nums.Bytes l) (hp : pos < l.length) : Utf8.decode (strOfNums l) pos = dec (l.drop pos) := by
  have hg : ∀ i, ((strOfNums l).get! (pos + i)).toNat = ((l.drop pos).getD i 0).toNat ∨ ¬ pos + i < l.length := fun i => by
    by_cases h : pos + i < l.length
    · left
      have hs : pos + i < (strOfNums l).size := by rw [size_str]; exact h
      have e := str_at l (pos + i) h hz hs
      rw [get_at _ _ hs]
      have e2 : (l.drop pos).getD i 0 = l[pos + i] := by simp [h]
      rw [e2, ← e, Int.toNat_natCast]
    · exact .inr h
  rw [Lib.decode_at, size_str]
  unfold dec
  rw [List.length_drop]
  have h0 := (hg 0).resolve_right (by omega)
  rw [Nat.add_zero] at h0
  rw [h0]
  generalize ((l.drop pos).getD 0 0).toNat = b0
  have h1 := hg 1
  have h2 := hg 2
  have h3 := hg 3
  generalize ((l.drop pos).getD 1 0).toNat = b1 at *
  generalize ((l.drop pos).getD 2 0).toNat = b2 at *
  generalize ((l.drop pos).getD 3 0).toNat = b3 at *
  generalize ((strOfNums l).get! (pos + 1)).toNat = c1 at *
  generalize ((strOfNums l).get! (pos + 2)).toNat = c2 at *
  generalize ((strOfNums l).get! (pos + 3)).toNat = c3 at *
  clear hg h0
  unfold Lib.decodeN
  by_cases k1 : pos + 1 < l.length
  · have e1 := h1.resolve_right (by omega)
    subst e1
    by_cases k2 : pos + 2 < l.length
    · have e2 := h2.resolve_right (by omega)
      subst e2
      by_cases k3 : pos + 3 < l.length
      · have e3 := h3.resolve_right (by omega)
        subst e3
        rfl
      · have n3 : ¬ 3 < l.length - pos := by omega
        simp [n3]
    · have n2 : ¬ 2 < l.length - pos := by omega
      simp [n2]
  · have n1 : ¬ 1 < l.length - pos := by omega
    simp [n1]

theorem dec1 {n b0 b1 b2 b3 : Nat} (h : b0 < 128) : Lib.decodeN n b0 b1 b2 b3 = (b0, 1) := by unfold Lib.decodeN; rw [if_pos h]
theorem dec2 {n b0 b1 b2 b3 : Nat} (h : 194 ≤ b0 ∧ b0 ≤ 223) (hn : 1 < n) (h1 : 128 ≤ b1 ∧ b1 ≤ 191) : Lib.decodeN n b0 b1 b2 b3 = ((b0 - 192) * 64 + (b1 - 128), 2) := by
  unfold Lib.decodeN
  rw [if_neg (by omega), if_pos (by omega), if_pos (by omega)]
  exact Prod.ext (by simp only; omega) rfl
theorem dec3 {n b0 b1 b2 b3 : Nat} (h : 224 ≤ b0 ∧ b0 ≤ 239) (hn : 2 < n) (h1 : (if b0 = 224 then 160 else 128) ≤ b1 ∧ b1 ≤ (if b0 = 237 then 159 else 191)) (h2 : 128 ≤ b2 ∧ b2 ≤ 191) : Lib.decodeN n b0 b1 b2 b3 = ((b0 - 224) * 4096 + (b1 - 128) * 64 + (b2 - 128), 3) := by
  have hb : 128 ≤ b1 ∧ b1 ≤ 191 := by split at h1 <;> split at h1 <;> omega
  unfold Lib.decodeN
  rw [if_neg (by omega), if_neg (by omega), if_pos (by omega), if_pos (by split at h1 <;> split at h1 <;> omega)]
  exact Prod.ext (by simp only; omega) rfl
theorem dec4 {n b0 b1 b2 b3 : Nat} (h : 240 ≤ b0 ∧ b0 ≤ 244) (hn : 3 < n) (h1 : (if b0 = 240 then 144 else 128) ≤ b1 ∧ b1 ≤ (if b0 = 244 then 143 else 191)) (h2 : 128 ≤ b2 ∧ b2 ≤ 191) (h3 : 128 ≤ b3 ∧ b3 ≤ 191) :
    Lib.decodeN n b0 b1 b2 b3 = ((b0 - 240) * 262144 + (b1 - 128) * 4096 + (b2 - 128) * 64 + (b3 - 128), 4) := by
  have hb : 128 ≤ b1 ∧ b1 ≤ 191 := by split at h1 <;> split at h1 <;> omega
  unfold Lib.decodeN
  rw [if_neg (by omega), if_neg (by omega), if_neg (by omega), if_pos (by omega), if_pos (by split at h1 <;> split at h1 <;> omega)]
  exact Prod.ext (by simp only; omega) rfl
/-- with which no rune begins. -/
theorem dec_bad {n b0 b1 b2 b3 : Nat} (h0 : 128 ≤ b0) (h256 : b0 < 256)
    (k2 : ¬ ((194 ≤ b0 ∧ b0 ≤ 223) ∧ 1 < n ∧ 128 ≤ b1 ∧ b1 ≤ 191))
    (k3 : ¬ ((224 ≤ b0 ∧ b0 ≤ 239) ∧ (1 < n ∧ (if b0 = 224 then 160 else 128) ≤ b1 ∧ b1 ≤ (if b0 = 237 then 159 else 191)) ∧ 2 < n ∧ 128 ≤ b2 ∧ b2 ≤ 191))
    (k4 : ¬ ((240 ≤ b0 ∧ b0 ≤ 244) ∧ (1 < n ∧ (if b0 = 240 then 144 else 128) ≤ b1 ∧ b1 ≤ (if b0 = 244 then 143 else 191)) ∧ (2 < n ∧ 128 ≤ b2 ∧ b2 ≤ 191) ∧ 3 < n ∧ 128 ≤ b3 ∧ b3 ≤ 191)) :
    Lib.decodeN n b0 b1 b2 b3 = (65533, 1) := by
  unfold Lib.decodeN
  rw [if_neg (by omega)]
  split
  · split
    · exfalso; omega
    · rfl
  · split
    · split
      · rename_i c1 c2
        exfalso
        by_cases e1 : b0 = 224
        · subst e1; simp at k3; omega
        · by_cases e2 : b0 = 237
          · subst e2; simp at k3; omega
          · rw [if_neg e1, if_neg e2] at k3; omega
      · rfl
    · split
      · split
        · rename_i c1 c2
          exfalso
          by_cases e1 : b0 = 240
          · subst e1; simp at k4; omega
          · by_cases e2 : b0 = 244
            · subst e2; simp at k4; omega
            · rw [if_neg e1, if_neg e2] at k4; omega
        · rfl
      · rfl
end Go.Proofs.Ytkmndllomheegaa
