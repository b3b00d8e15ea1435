/-
  The order of names is their order octet by octet: plain facts.
-/
import Derived.Test.YtpekemiplldlpaaDoorNameI
namespace Go.Proofs.YtpekemiplldlpaaDoor
set_option linter.unusedVariables false
set_option linter.unusedSimpArgs false
open Go.RowKit

/-- the order of two lists of octets. -/
def lessI : List Int → List Int → Bool
  | _, [] => false
  | [], _ :: _ => true
  | a :: x, b :: y => if a < b then true else if b < a then false else lessI x y

theorem less_bytes {x y : List Int} (hx : Nums.Bytes x) (hy : Nums.Bytes y) : Op.bytesLess (x.map fun n => UInt8.ofNat n.toNat) (y.map fun n => UInt8.ofNat n.toNat) = lessI x y := by
  induction x generalizing y with
  | nil => cases y <;> simp [Op.bytesLess, lessI]
  | cons a x ih =>
    cases y with
    | nil => simp [Op.bytesLess, lessI]
    | cons b y =>
      have ha := hx a (by simp)
      have hb := hy b (by simp)
      simp only [List.map_cons, Op.bytesLess, lessI]
      rw [ih (fun z h => hx z (by simp [h])) (fun z h => hy z (by simp [h]))]
      have e1 : (UInt8.ofNat a.toNat < UInt8.ofNat b.toNat) = (a < b) := by
        rw [UInt8.lt_iff_toNat_lt]
        simp
        omega
      have e2 : (UInt8.ofNat a.toNat == UInt8.ofNat b.toNat) = decide (a = b) := by
        rw [Bool.eq_iff_iff]
        simp only [beq_iff_eq, decide_eq_true_eq]
        rw [← UInt8.toNat_inj]
        simp
        omega
      rw [e2]
      by_cases h1 : a < b
      · have h1' : UInt8.ofNat a.toNat < UInt8.ofNat b.toNat := by rw [e1]; exact h1
        simp [h1, h1']
      · have h1' : ¬ UInt8.ofNat a.toNat < UInt8.ofNat b.toNat := by rw [e1]; exact h1
        by_cases h2 : b < a
        · have h3 : ¬ a = b := by omega
          simp [h1, h1', h2, h3]
        · have h3 : a = b := by omega
          simp [h1', h3]

theorem less_same (p u v : List Int) : lessI (p ++ u) (p ++ v) = lessI u v := by
  induction p with
  | nil => rfl
  | cons a p ih => simp [lessI, ih]
theorem enc_some (r : Nat) : ∃ z t, encR r = z :: t := by
  unfold encR
  split
  · exact ⟨_, _, rfl⟩
  · split
    · exact ⟨_, _, rfl⟩
    · exact ⟨_, _, rfl⟩
theorem enc_less {a b : Nat} (h : a < b) (hb : b ≤ 65519) (u v : List Int) : lessI (encR a ++ u) (encR b ++ v) = true ∧ lessI (encR b ++ v) (encR a ++ u) = false := by
  unfold encR
  by_cases a1 : a < 128
  · rw [if_pos a1]
    by_cases b1 : b < 128
    · rw [if_pos b1]
      simp only [List.cons_append, List.nil_append, lessI]
      rw [if_pos (by omega), if_neg (by omega), if_pos (by omega)]
      exact ⟨rfl, rfl⟩
    · rw [if_neg b1]
      by_cases b2 : b < 2048
      · rw [if_pos b2]
        simp only [List.cons_append, List.nil_append, lessI]
        rw [if_pos (by omega), if_neg (by omega), if_pos (by omega)]
        exact ⟨rfl, rfl⟩
      · rw [if_neg b2]
        simp only [List.cons_append, List.nil_append, lessI]
        rw [if_pos (by omega), if_neg (by omega), if_pos (by omega)]
        exact ⟨rfl, rfl⟩
  · rw [if_neg a1, if_neg (show ¬ b < 128 by omega)]
    by_cases a2 : a < 2048
    · rw [if_pos a2]
      by_cases b2 : b < 2048
      · rw [if_pos b2]
        simp only [List.cons_append, List.nil_append, lessI]
        by_cases q : a / 64 < b / 64
        · rw [if_pos (by omega), if_neg (by omega), if_pos (by omega)]
          exact ⟨rfl, rfl⟩
        · rw [if_neg (by omega), if_neg (by omega), if_pos (by omega), if_neg (by omega), if_neg (by omega), if_neg (by omega), if_pos (by omega)]
          exact ⟨rfl, rfl⟩
      · rw [if_neg b2]
        simp only [List.cons_append, List.nil_append, lessI]
        rw [if_pos (by omega), if_neg (by omega), if_pos (by omega)]
        exact ⟨rfl, rfl⟩
    · rw [if_neg a2, if_neg (show ¬ b < 2048 by omega)]
      simp only [List.cons_append, List.nil_append, lessI]
      by_cases q : a / 4096 < b / 4096
      · rw [if_pos (by omega), if_neg (by omega), if_pos (by omega)]
        exact ⟨rfl, rfl⟩
      · by_cases q2 : a / 64 < b / 64
        · rw [if_neg (by omega), if_neg (by omega), if_pos (by omega), if_neg (by omega), if_neg (by omega), if_neg (by omega), if_pos (by omega)]
          exact ⟨rfl, rfl⟩
        · rw [if_neg (by omega), if_neg (by omega), if_neg (by omega), if_neg (by omega), if_pos (by omega), if_neg (by omega), if_neg (by omega), if_neg (by omega), if_neg (by omega), if_neg (by omega), if_pos (by omega)]
          exact ⟨rfl, rfl⟩

theorem less_runes {a b : List Nat} (ha : ∀ r ∈ a, ofR r = true) (hb : ∀ r ∈ b, ofR r = true) : lessI (a.flatMap encR) (b.flatMap encR) = decide (cmpR a b < 0) := by
  induction a generalizing b with
  | nil =>
    cases b with
    | nil => rfl
    | cons r b =>
      obtain ⟨z, t, e⟩ := enc_some r
      simp [List.flatMap_cons, e, lessI, cmpR]
  | cons p a ih =>
    cases b with
    | nil =>
      obtain ⟨z, t, e⟩ := enc_some p
      simp [List.flatMap_cons, e, lessI, cmpR]
    | cons q b =>
      have hp := of_bounds (ha p (by simp))
      have hq := of_bounds (hb q (by simp))
      rw [List.flatMap_cons, List.flatMap_cons, cmpR]
      by_cases h1 : p < q
      · rw [(enc_less h1 hq _ _).1, if_pos h1]
        rfl
      · by_cases h2 : q < p
        · rw [(enc_less h2 hp _ _).2, if_neg h1, if_pos h2]
          rfl
        · obtain rfl : p = q := by omega
          rw [less_same, if_neg h1, if_neg h2]
          exact ih (fun r h => ha r (by simp [h])) (fun r h => hb r (by simp [h]))

theorem flat_shown {a : List Nat} (ha : ∀ r ∈ a, ofR r = true) : a.flatMap encR = a.flatMap shownR := by
  induction a with
  | nil => rfl
  | cons p a ih =>
    rw [List.flatMap_cons, List.flatMap_cons, ih (fun r h => ha r (by simp [h]))]
    unfold shownR
    rw [if_pos (ha p (by simp))]
theorem name_text {l : List Int} (hz : Nums.Bytes l) (h : rightR (runes l) = true) : l = (runes l).flatMap encR := by
  rw [flat_shown (right_of h)]
  exact (seen_same hz (right_of h)).symm
theorem flat_len (a : List Nat) : (a.flatMap encR).length ≤ 3 * a.length := by
  induction a with
  | nil => simp
  | cons p a ih =>
    rw [List.flatMap_cons, List.length_append, List.length_cons]
    have : (encR p).length ≤ 3 := by
      unfold encR
      split
      · simp
      · split <;> simp
    omega
theorem name_len {l : List Int} (hz : Nums.Bytes l) (h : rightR (runes l) = true) : l.length ≤ 24 := by
  have h1 := flat_len (runes l)
  rw [← name_text hz h] at h1
  unfold rightR at h
  simp only [decide_eq_true_eq] at h
  omega

theorem cmpR_vals (a b : List Nat) : cmpR a b = -1 ∨ cmpR a b = 0 ∨ cmpR a b = 1 := by
  induction a generalizing b with
  | nil => cases b <;> simp [cmpR]
  | cons p a ih =>
    cases b with
    | nil => simp [cmpR]
    | cons q b =>
      rw [cmpR]
      split
      · simp
      · split
        · simp
        · exact ih b
theorem cmpR_anti (a b : List Nat) : cmpR b a = -cmpR a b := by
  induction a generalizing b with
  | nil => cases b <;> simp [cmpR]
  | cons p a ih =>
    cases b with
    | nil => simp [cmpR]
    | cons q b =>
      rw [cmpR, cmpR]
      by_cases h1 : p < q
      · rw [if_neg (by omega), if_pos h1, if_pos h1]; rfl
      · by_cases h2 : q < p
        · rw [if_pos h2, if_neg h1, if_pos h2]
        · rw [if_neg h2, if_neg h1, if_neg h1, if_neg h2]
          exact ih b
theorem cmpR_zero (a b : List Nat) : cmpR a b = 0 ↔ a = b := by
  induction a generalizing b with
  | nil => cases b <;> simp [cmpR]
  | cons p a ih =>
    cases b with
    | nil => simp [cmpR]
    | cons q b =>
      rw [cmpR, List.cons.injEq]
      by_cases h1 : p < q
      · rw [if_pos h1]
        constructor
        · intro h; cases h
        · intro h; omega
      · by_cases h2 : q < p
        · rw [if_neg h1, if_pos h2]
          constructor
          · intro h; cases h
          · intro h; omega
        · rw [if_neg h1, if_neg h2, ih b]
          constructor
          · intro h; exact ⟨by omega, h⟩
          · intro h; exact h.2
theorem cmpR_less {a b c : List Nat} (h1 : cmpR a b = -1) (h2 : cmpR b c = -1) : cmpR a c = -1 := by
  induction a generalizing b c with
  | nil =>
    cases b with
    | nil => simp [cmpR] at h1
    | cons q b =>
      cases c with
      | nil => simp [cmpR] at h2
      | cons r c => rfl
  | cons p a ih =>
    cases b with
    | nil => simp [cmpR] at h1
    | cons q b =>
      cases c with
      | nil => simp [cmpR] at h2
      | cons r c =>
        rw [cmpR] at *
        by_cases e1 : p < q
        · by_cases e2 : q < r
          · rw [if_pos (by omega)]
          · by_cases e3 : r < q
            · rw [if_neg e2, if_pos e3] at h2; cases h2
            · rw [if_pos (by omega)]
        · by_cases e2 : q < p
          · rw [if_neg e1, if_pos e2] at h1; cases h1
          · obtain rfl : p = q := by omega
            rw [if_neg e1, if_neg e2] at h1
            by_cases e3 : p < r
            · rw [if_pos e3]
            · by_cases e4 : r < p
              · rw [if_neg e3, if_pos e4] at h2; cases h2
              · rw [if_neg e3, if_neg e4] at h2 ⊢
                exact ih h1 h2
/-- the order holds through a third one. -/
theorem cmpR_three (a b c : List Nat) : (cmpR a b ≤ 0 → cmpR b c ≤ 0 → cmpR a c ≤ 0 ∧ (cmpR a c = 0 ↔ cmpR a b = 0 ∧ cmpR b c = 0)) ∧ (0 < cmpR a b → 0 < cmpR b c → 0 < cmpR a c) := by
  have va := cmpR_vals a b
  have vb := cmpR_vals b c
  have vc := cmpR_vals a c
  refine ⟨fun h1 h2 => ?_, fun h1 h2 => ?_⟩
  · rcases (show cmpR a b = -1 ∨ cmpR a b = 0 by omega) with e1 | e1
    · rcases (show cmpR b c = -1 ∨ cmpR b c = 0 by omega) with e2 | e2
      · have := cmpR_less e1 e2
        omega
      · obtain rfl := (cmpR_zero b c).1 e2
        omega
    · obtain rfl := (cmpR_zero a b).1 e1
      omega
  · have h3 : cmpR c b = -1 := by have := cmpR_anti b c; omega
    have h4 : cmpR b a = -1 := by have := cmpR_anti a b; omega
    have := cmpR_less h3 h4
    have := cmpR_anti c a
    omega

/-- how the walk holds two names against each other. -/
theorem names_order {l m : List Int} (hl : Nums.Bytes l) (hm : Nums.Bytes m) (hr : rightR (runes l) = true) (hs : rightR (runes m) = true) :
    Op.bytesLess (strOfNums l).toList (strOfNums m).toList = decide (cmpR (runes l) (runes m) < 0) ∧ ((strOfNums l).toList == (strOfNums m).toList) = decide (cmpR (runes l) (runes m) = 0) := by
  refine ⟨?_, ?_⟩
  · rw [str_toList, str_toList, less_bytes hl hm, ← less_runes (right_of hr) (right_of hs), ← name_text hl hr, ← name_text hm hs]
  · by_cases h : cmpR (runes l) (runes m) = 0
    · have e := (cmpR_zero _ _).1 h
      have e2 : l = m := by rw [name_text hl hr, e, ← name_text hm hs]
      subst e2
      simp [h]
    · rw [decide_eq_false h]
      exact str_ne (fun e => h ((cmpR_zero _ _).2 (by rw [str_inj hl hm e])))
end Go.Proofs.YtpekemiplldlpaaDoor
