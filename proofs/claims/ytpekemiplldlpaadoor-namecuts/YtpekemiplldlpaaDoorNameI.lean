/-
  A rune, as it is seen: plain facts.
-/
import Derived.Test.YtpekemiplldlpaaDoorNameE
import Derived.Test.YtpekemiplldlpaaDoorHexB
import Derived.Laws.Runes
namespace Go.Proofs.YtpekemiplldlpaaDoor
set_option linter.unusedVariables false
set_option linter.unusedSimpArgs false
open Go.RowKit

/-- the octets of a rune of at most three of them. -/
def encR (r : Nat) : List Int := if r < 128 then [(r : Int)] else if r < 2048 then [192 + (r : Int) / 64, 128 + (r : Int) % 64] else [224 + (r : Int) / 4096, 128 + (r : Int) / 64 % 64, 128 + (r : Int) % 64]
/-- a rune, as it is seen. -/
def shownR (r : Nat) : List Int := if ofR r = true then encR r else 60 :: (hexd r ++ [62])
/-- a text, as it is seen. -/
def seen (l : List Int) : List Int := (runes l).flatMap shownR

theorem of_bounds {r : Nat} (h : ofR r = true) : r ≤ 65519 := by
  simp only [ofR, decide_eq_true_eq] at h
  omega

theorem enc_str {r : Nat} (h : r ≤ 65519) (hs : r < 55296 ∨ 57344 ≤ r) : Utf8.encode r = strOfNums (encR r) := by
  have hv : Utf8.valid (r : Int) = true := by
    rw [validRune_eq]
    unfold validRune
    simp only [decide_eq_true_eq]
    omega
  unfold Utf8.encode encR
  simp only [hv, if_true, Int.toNat_natCast]
  by_cases h1 : r < 128
  · rw [if_pos h1, if_pos h1]
    unfold strOfNums
    simp
  · rw [if_neg h1, if_neg h1]
    by_cases h2 : r < 2048
    · rw [if_pos h2, if_pos h2]
      unfold strOfNums
      have e1 : (192 + (r : Int) / 64).toNat = 192 + r / 64 := by omega
      have e2 : (128 + (r : Int) % 64).toNat = 128 + r % 64 := by omega
      simp only [List.map_cons, List.map_nil, e1, e2]
    · rw [if_neg h2, if_neg h2, if_pos (by omega)]
      unfold strOfNums
      have e1 : (224 + (r : Int) / 4096).toNat = 224 + r / 4096 := by omega
      have e2 : (128 + (r : Int) / 64 % 64).toNat = 128 + r / 64 % 64 := by omega
      have e3 : (128 + (r : Int) % 64).toNat = 128 + r % 64 := by omega
      simp only [List.map_cons, List.map_nil, e1, e2, e3]

/-- a rune of a name that was read is written by the octets that were read. -/
theorem enc_dec {l : List Int} (hz : Nums.Bytes l) (hl : l ≠ []) (ho : ofR (dec l).1 = true) : encR (dec l).1 = l.take (dec l).2 ∧ ((dec l).1 < 55296 ∨ 57344 ≤ (dec l).1) := by
  have hb := of_bounds ho
  match l, hl with
  | [a], _ =>
    have ha := hz a (by simp)
    unfold dec Lib.decodeN at *
    simp only [List.length_cons, List.length_nil, List.getD_cons_zero] at *
    split at hb
    · rename_i h
      rw [if_pos h]
      refine ⟨?_, by omega⟩
      unfold encR
      rw [if_pos h]
      simp
      omega
    · exfalso
      rename_i h
      rw [if_neg (by omega), if_neg (by omega), if_neg (by omega)] at hb
      omega
  | [a, b], _ =>
    have ha := hz a (by simp)
    have hb' := hz b (by simp)
    unfold dec Lib.decodeN at *
    simp only [List.length_cons, List.length_nil, List.getD_cons_zero, List.getD_cons_succ] at *
    split at hb
    · rename_i h
      rw [if_pos h]
      refine ⟨?_, by omega⟩
      unfold encR
      rw [if_pos h]
      simp
      omega
    · rename_i h
      rw [if_neg h]
      split at hb
      · rename_i h2
        rw [if_pos h2]
        split at hb
        · rename_i h3
          rw [if_pos h3]
          refine ⟨?_, by simp only; omega⟩
          unfold encR
          rw [if_neg (by simp only; omega), if_pos (by simp only; omega)]
          simp only [List.take_succ_cons, List.take_zero, List.cons.injEq, and_true]
          omega
        · exfalso; omega
      · exfalso
        rw [if_neg (by omega), if_neg (by omega)] at hb
        omega
  | a :: b :: c :: t, _ =>
    have ha := hz a (by simp)
    have hb' := hz b (by simp)
    have hc := hz c (by simp)
    unfold dec Lib.decodeN at *
    simp only [List.length_cons, List.getD_cons_zero, List.getD_cons_succ] at *
    generalize (t.getD 0 0).toNat = d at *
    split at hb
    · rename_i h
      rw [if_pos h]
      refine ⟨?_, by omega⟩
      unfold encR
      rw [if_pos h]
      simp
      omega
    · rename_i h
      rw [if_neg h]
      split at hb
      · rename_i h2
        rw [if_pos h2]
        split at hb
        · rename_i h3
          rw [if_pos h3]
          refine ⟨?_, by simp only; omega⟩
          unfold encR
          rw [if_neg (by simp only; omega), if_pos (by simp only; omega)]
          simp only [List.take_succ_cons, List.take_zero, List.cons.injEq, and_true]
          omega
        · exfalso; omega
      · rename_i h2
        rw [if_neg h2]
        split at hb
        · rename_i h3
          rw [if_pos h3]
          split at hb
          · rename_i h4
            rw [if_pos h4]
            refine ⟨?_, by simp only; omega⟩
            unfold encR
            rw [if_neg (by simp only; omega), if_neg (by simp only; omega)]
            simp only [List.take_succ_cons, List.take_zero, List.cons.injEq, and_true]
            omega
          · exfalso; omega
        · exfalso
          split at hb
          · split at hb
            · omega
            · omega
          · omega

theorem shownR_len (r : Nat) : (shownR r).length ≤ 10 := by
  unfold shownR
  split
  · unfold encR
    split
    · simp
    · split <;> simp
  · have := hexF_len 8 r
    unfold hexd
    simp
    omega
theorem shownR_bytes {r : Nat} : Nums.Bytes (shownR r) := by
  unfold shownR
  split
  · rename_i h
    have hb := of_bounds h
    unfold encR
    intro z hz
    split at hz
    · simp at hz; omega
    · split at hz
      · simp at hz; omega
      · simp at hz; omega
  · intro z hz
    rcases List.mem_cons.1 hz with rfl | hz
    · omega
    · rcases List.mem_append.1 hz with hz | hz
      · exact hexF_bytes _ _ z hz
      · simp at hz; omega

theorem seen_nil : seen [] = [] := rfl
theorem seen_cons {l : List Int} (hz : Nums.Bytes l) (h : l ≠ []) : seen l = shownR (dec l).1 ++ seen (l.drop (dec l).2) := by
  unfold seen
  rw [runes_cons hz h]
  rfl
theorem seen_at {l : List Int} (hz : Nums.Bytes l) {pos : Nat} (hp : pos < l.length) : seen (l.drop pos) = shownR (dec (l.drop pos)).1 ++ seen (l.drop (pos + (dec (l.drop pos)).2)) := by
  unfold seen
  rw [runes_at hz hp]
  rfl
/-- where all runes are a name's, a text is seen as it is. -/
theorem seen_same {l : List Int} (hz : Nums.Bytes l) (h : ∀ r ∈ runes l, ofR r = true) : seen l = l := by
  obtain ⟨n, hn⟩ : ∃ n, l.length ≤ n := ⟨_, Nat.le_refl _⟩
  induction n generalizing l with
  | zero =>
    obtain rfl : l = [] := List.eq_nil_of_length_eq_zero (by omega)
    rfl
  | succ n ih =>
    by_cases hl : l = []
    · subst hl; rfl
    · have hw := dec_width hz hl
      rw [runes_cons hz hl] at h
      have h0 := h (dec l).1 (by simp)
      rw [seen_cons hz hl, ih (bytes_dropw hz _) (fun r hr => h r (by simp [hr])) (by simp; omega)]
      unfold shownR
      rw [if_pos h0, (enc_dec hz hl h0).1, List.take_append_drop]
theorem seen_length {l : List Int} (hz : Nums.Bytes l) : (seen l).length ≤ 10 * l.length := by
  obtain ⟨n, hn⟩ : ∃ n, l.length ≤ n := ⟨_, Nat.le_refl _⟩
  induction n generalizing l with
  | zero =>
    obtain rfl : l = [] := List.eq_nil_of_length_eq_zero (by omega)
    simp [seen_nil]
  | succ n ih =>
    by_cases hl : l = []
    · subst hl; simp [seen_nil]
    · have hw := dec_width hz hl
      rw [seen_cons hz hl, List.length_append]
      have := ih (bytes_dropw hz (dec l).2) (by simp; omega)
      have := shownR_len (dec l).1
      simp at *
      omega
theorem right_of {l : List Int} (h : rightR (runes l) = true) : ∀ r ∈ runes l, ofR r = true := by
  unfold rightR at h
  simp only [decide_eq_true_eq] at h
  exact h.2.2
end Go.Proofs.YtpekemiplldlpaaDoor
