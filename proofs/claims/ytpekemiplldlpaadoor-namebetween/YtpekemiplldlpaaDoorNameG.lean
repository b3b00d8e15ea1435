/-
  The order of texts: the program's and the document's answers.
-/
import Derived.Test.YtpekemiplldlpaaDoorNameD
namespace Go.Proofs.YtpekemiplldlpaaDoor
set_option linter.unusedVariables false
set_option linter.unusedSimpArgs false
open Go.RowKit

theorem cmpR_at (a b : List Nat) (k : Nat) (ha : k < a.length) (hb : k < b.length) : cmpR (a.drop k) (b.drop k) = if a[k] < b[k] then -1 else if b[k] < a[k] then 1 else cmpR (a.drop (k + 1)) (b.drop (k + 1)) := by
  rw [List.drop_eq_getElem_cons ha, List.drop_eq_getElem_cons hb]
  rfl
theorem cmpR_first (a b : List Nat) (k : Nat) (ha : k < a.length) (hb : b.length ≤ k) : cmpR (a.drop k) (b.drop k) = 1 := by
  rw [List.drop_eq_getElem_cons ha, List.drop_of_length_le hb]
  rfl
theorem cmpR_second (a b : List Nat) (k : Nat) (ha : a.length ≤ k) (hb : k < b.length) : cmpR (a.drop k) (b.drop k) = -1 := by
  rw [List.drop_eq_getElem_cons hb, List.drop_of_length_le ha]
  rfl
theorem cmpR_none (a b : List Nat) (k : Nat) (ha : a.length ≤ k) (hb : b.length ≤ k) : cmpR (a.drop k) (b.drop k) = 0 := by
  rw [List.drop_of_length_le ha, List.drop_of_length_le hb]
  rfl

/-- the order of two numbers. -/
def cmpN (x y : Int) : Int := if x < y then -1 else if y < x then 1 else 0
theorem cmp_any (x y : Int) (w : World) : Calls Tryd.prog 29 #[.int .i32 x, .int .i32 y] w fun e w' => e = .returned (.int .i64 (cmpN x y)) ∧ w' = w := by
  rcases (show (x < y ∧ cmpN x y = -1) ∨ (¬ x < y ∧ y < x ∧ cmpN x y = 1) ∨ (¬ x < y ∧ ¬ y < x ∧ cmpN x y = 0) from by unfold cmpN; by_cases h1 : x < y <;> by_cases h2 : y < x <;> simp [h1, h2]) with ⟨h1, h⟩ | ⟨h1, h2, h⟩ | ⟨h1, h2, h⟩
  all_goals
    have HH := hide h
    clear h
    go_enter Tryd.func29, Tryd.ntmps29
    go_wp2
    go_ret
    exact ⟨by rw [HH.out]; rfl, rfl⟩

set_option maxHeartbeats 1000000 in
theorem scompare_any (a b : List Nat) (x y : Option Addr) (cx cy : Nat) (w : World) (ha : a.length ≤ 1000000) (hb : b.length ≤ 1000000) (hx : Row .i32 w x a.length (runeNums a)) (hy : Row .i32 w y b.length (runeNums b)) :
    Calls Tryd.prog 23 #[.slice x a.length cx, .slice y b.length cy] w fun e w' => e = .returned (.int .i64 (cmpR a b)) ∧ w' = w := by
  have HX := hide hx
  have HY := hide hy
  have HC := hide cmp_any
  clear hx hy
  go_enter Tryd.func23, Tryd.ntmps23
  go_wp2
  go_loopw [11] (fun i wr => ∃ k : Nat, k ≤ a.length ∧ k ≤ b.length ∧ i = .int .i64 k ∧ wr = w ∧ cmpR a b = cmpR (a.drop k) (b.drop k)) (fun i _ => a.length - (intOf i).toNat)
  case atStart => exact ⟨0, Nat.zero_le _, Nat.zero_le _, rfl, rfl, rfl⟩
  case round =>
    obtain ⟨k, hka, hkb, rfl, rfl, hr⟩ := hrel
    have HR := hide hr
    clear hr
    by_cases hlt : k < a.length
    · have hi : (k : Int) < (a.length : Int) := by omega
      obtain ⟨_, h0 | ⟨g, off, rfl, hbw, hc⟩⟩ := HX.out
      · omega
      have hck := hc k hlt
      have hgd : (runeNums a).getD k 0 = ((a[k] : Nat) : Int) := by simp [runeNums, hlt]
      rw [hgd] at hck
      clear hc hgd
      by_cases hlb : k < b.length
      · have hj : ¬ (b.length : Int) ≤ (k : Int) := by omega
        obtain ⟨_, h0 | ⟨g2, off2, rfl, hbw2, hc2⟩⟩ := HY.out
        · omega
        have hck2 := hc2 k hlb
        have hgd2 : (runeNums b).getD k 0 = ((b[k] : Nat) : Int) := by simp [runeNums, hlb]
        rw [hgd2] at hck2
        clear hc2 hgd2
        have HAT := hide (cmpR_at a b k hlt hlb)
        have hcmp : (a[k] < b[k] ∧ cmpN ((a[k] : Nat) : Int) ((b[k] : Nat) : Int) = -1) ∨ (¬ a[k] < b[k] ∧ b[k] < a[k] ∧ cmpN ((a[k] : Nat) : Int) ((b[k] : Nat) : Int) = 1) ∨ (¬ a[k] < b[k] ∧ ¬ b[k] < a[k] ∧ cmpN ((a[k] : Nat) : Int) ((b[k] : Nat) : Int) = 0) := by
          unfold cmpN
          by_cases h1 : a[k] < b[k]
          · exact .inl ⟨h1, by rw [if_pos (by omega)]⟩
          · by_cases h2 : b[k] < a[k]
            · exact .inr (.inl ⟨h1, h2, by rw [if_neg (by omega), if_pos (by omega)]⟩)
            · exact .inr (.inr ⟨h1, h2, by rw [if_neg (by omega), if_neg (by omega)]⟩)
        have HC2 := hide (HC.out ((a[k] : Nat) : Int) ((b[k] : Nat) : Int) wr)
        generalize ((a[k] : Nat) : Int) = p at *
        generalize ((b[k] : Nat) : Int) = q at *
        rcases hcmp with ⟨h1, hv⟩ | ⟨h1, h2, hv⟩ | ⟨h1, h2, hv⟩
        · rw [hv] at HC2
          rw [if_pos h1] at HAT
          clear h1 hv
          go_wp2_with fail
          refine HC2.out.mono ?_
          rintro e w2 ⟨rfl, hw⟩
          obtain rfl := hw.symm
          go_wp2_with fail
          go_ret
          exact ⟨by rw [HR.out, HAT.out]; rfl, by trivial⟩
        · rw [hv] at HC2
          rw [if_neg h1, if_pos h2] at HAT
          clear h1 hv h2
          go_wp2_with fail
          refine HC2.out.mono ?_
          rintro e w2 ⟨rfl, hw⟩
          obtain rfl := hw.symm
          go_wp2_with fail
          go_ret
          exact ⟨by rw [HR.out, HAT.out]; rfl, by trivial⟩
        · rw [hv] at HC2
          rw [if_neg h1, if_neg h2] at HAT
          clear h1 hv h2
          go_wp2_with fail
          refine HC2.out.mono ?_
          rintro e w2 ⟨rfl, hw⟩
          obtain rfl := hw.symm
          go_wp2_with fail
          go_roundw
          case rel => exact ⟨k + 1, by omega, by omega, by go_num, by trivial, by rw [HR.out, HAT.out]⟩
          case measure => simp [intOf]; omega
      · have hj : (b.length : Int) ≤ (k : Int) := by omega
        have HE := hide (cmpR_first a b k hlt (by omega))
        go_wp2_with fail
        go_ret
        exact ⟨by rw [HR.out, HE.out]; rfl, by trivial⟩
    · have hi : ¬ (k : Int) < (a.length : Int) := by omega
      by_cases hlb : k < b.length
      · have hj : (a.length : Int) < (b.length : Int) := by omega
        have HE := hide (cmpR_second a b k (by omega) hlb)
        go_wp2_with fail
        go_ret
        exact ⟨by rw [HR.out, HE.out]; rfl, by trivial⟩
      · have hj : ¬ (a.length : Int) < (b.length : Int) := by omega
        have HE := hide (cmpR_none a b k (by omega) (by omega))
        go_wp2_with fail
        go_ret
        exact ⟨by rw [HR.out, HE.out]; rfl, by trivial⟩

theorem ncompare_any (l m : List Int) (w : World) (hz : Nums.Bytes l) (hm : l.length ≤ 1000000) (hz2 : Nums.Bytes m) (hm2 : m.length ≤ 1000000) :
    Calls Tryd.prog 16 #[.string (strOfNums l), .string (strOfNums m)] w fun e w' => e = .returned (.int .i64 (cmpR (runes l) (runes m))) ∧ Below w.heap.size w w' := by
  have H1 := hide (nrunes_any l w hz hm)
  have H2 := hide (fun W => nrunes_any m W hz2 hm2)
  have hl1 := runes_length hz
  have hl2 := runes_length hz2
  have HS := hide scompare_any
  generalize strOfNums l = S at *
  generalize strOfNums m = T at *
  generalize runes l = a at *
  generalize runes m = b at *
  go_enter Tryd.func16, Tryd.ntmps16
  go_wp2_with fail
  refine H1.out.mono ?_
  rintro e w1 ⟨x, cx, rfl, hle, hmax, hrow, hb⟩
  have HB := hide hb
  have HRow := hide hrow
  clear hb hrow
  go_wp2_with fail
  refine (H2.out w1).mono ?_
  rintro e w2 ⟨y, cy, rfl, hle2, hmax2, hrow2, hb2⟩
  have HB2 := hide (HB.out.trans (hb2.mono HB.out.size))
  have HRow2 := hide hrow2
  have HRow1 := hide (HRow.out.below hb2)
  clear hb2 hrow2
  go_wp2_with fail
  refine (HS.out a b x y cx cy w2 (by omega) (by omega) HRow1.out HRow2.out).mono ?_
  rintro e w3 ⟨rfl, hw⟩
  obtain rfl := hw.symm
  go_wp2_with fail
  go_ret
  exact ⟨rfl, HB2.out⟩

set_option maxHeartbeats 1000000 in
theorem rcompare_any (l m : List Int) (w : World) (hz : Nums.Bytes l) (hm : l.length ≤ 1000000) (hz2 : Nums.Bytes m) (hm2 : m.length ≤ 1000000) :
    Calls Tryd.prog 17 #[.string (strOfNums l), .string (strOfNums m)] w fun e w' => e = .returned (.int .i64 (cmpR (runes l) (runes m))) ∧ Below w.heap.size w w' := by
  have H1 := hide (rrunes_any l w hz hm)
  have H2 := hide (fun W => rrunes_any m W hz2 hm2)
  have hl1 := runes_length hz
  have hl2 := runes_length hz2
  generalize strOfNums l = S at *
  generalize strOfNums m = T at *
  generalize runes l = a at *
  generalize runes m = b at *
  go_enter Tryd.func17, Tryd.ntmps17
  go_wp2_with fail
  refine H1.out.mono ?_
  rintro e w1 ⟨x, cx, rfl, hle, hmax, hrow, hb⟩
  have HB := hide hb
  have HRow := hide hrow
  clear hb hrow
  go_wp2_with fail
  refine (H2.out w1).mono ?_
  rintro e w2 ⟨y, cy, rfl, hle2, hmax2, hrow2, hb2⟩
  have HB2 := hide (HB.out.trans (hb2.mono HB.out.size))
  have HRow2 := hide hrow2
  have HRow1 := hide (HRow.out.below hb2)
  clear hb2 hrow2
  go_wp2_with fail
  go_loopw [7] (fun i wr => ∃ k : Nat, k ≤ a.length ∧ k ≤ b.length ∧ i = .int .i64 k ∧ Below w2.heap.size w2 wr ∧ cmpR a b = cmpR (a.drop k) (b.drop k)) (fun i _ => a.length - (intOf i).toNat)
  case atStart => exact ⟨0, Nat.zero_le _, Nat.zero_le _, rfl, Below.refl _ _, rfl⟩
  case round =>
    obtain ⟨k, hka, hkb, rfl, hbr, hr⟩ := hrel
    have HR := hide hr
    have HBR := hide hbr
    clear hr hbr
    have HEND := hide (HB2.out.trans (HBR.out.mono HB2.out.size))
    by_cases hlt : k < a.length
    · have hi : (k : Int) < (a.length : Int) := by omega
      by_cases hlb : k < b.length
      · have hj : (k : Int) < (b.length : Int) := by omega
        obtain ⟨_, h0 | ⟨g, off, rfl, hbw, hc⟩⟩ := HRow1.out.below HBR.out
        · omega
        have hck := hc k hlt
        have hgd : (runeNums a).getD k 0 = ((a[k] : Nat) : Int) := by simp [runeNums, hlt]
        rw [hgd] at hck
        clear hc hgd
        obtain ⟨_, h0 | ⟨g2, off2, rfl, hbw2, hc2⟩⟩ := HRow2.out.below HBR.out
        · omega
        have hck2 := hc2 k hlb
        have hgd2 : (runeNums b).getD k 0 = ((b[k] : Nat) : Int) := by simp [runeNums, hlb]
        rw [hgd2] at hck2
        clear hc2 hgd2
        have HAT := hide (cmpR_at a b k hlt hlb)
        have hcmp : (a[k] < b[k] ∧ ((a[k] : Nat) : Int) < ((b[k] : Nat) : Int)) ∨ (¬ a[k] < b[k] ∧ b[k] < a[k] ∧ (¬ ((a[k] : Nat) : Int) < ((b[k] : Nat) : Int)) ∧ ((b[k] : Nat) : Int) < ((a[k] : Nat) : Int)) ∨ (¬ a[k] < b[k] ∧ ¬ b[k] < a[k] ∧ (¬ ((a[k] : Nat) : Int) < ((b[k] : Nat) : Int)) ∧ ¬ ((b[k] : Nat) : Int) < ((a[k] : Nat) : Int)) := by omega
        generalize ((a[k] : Nat) : Int) = p at *
        generalize ((b[k] : Nat) : Int) = q at *
        rcases hcmp with ⟨h1, q1⟩ | ⟨h1, h2, q1, q2⟩ | ⟨h1, h2, q1, q2⟩
        · rw [if_pos h1] at HAT
          clear h1
          go_wp2_with fail
          go_quiet (fail)
          go_wp2_with fail
          go_ret
          exact ⟨by rw [HR.out, HAT.out]; rfl, HEND.out.trans ⟨rfl, rfl, rfl, Nat.le_refl _, fun _ _ => rfl⟩⟩
        · rw [if_neg h1, if_pos h2] at HAT
          clear h1 h2
          go_wp2_with fail
          go_quiet (fail)
          go_wp2_with fail
          go_quiet (fail)
          go_wp2_with fail
          go_ret
          exact ⟨by rw [HR.out, HAT.out]; rfl, HEND.out.trans ⟨rfl, rfl, rfl, Nat.le_refl _, fun _ _ => rfl⟩⟩
        · rw [if_neg h1, if_neg h2] at HAT
          clear h1 h2
          go_wp2_with fail
          go_quiet (fail)
          go_wp2_with fail
          go_quiet (fail)
          go_wp2_with fail
          go_roundw
          case rel => exact ⟨k + 1, by omega, by omega, by go_num, HBR.out.trans ⟨rfl, rfl, rfl, Nat.le_refl _, fun _ _ => rfl⟩, by rw [HR.out, HAT.out]⟩
          case measure => simp [intOf]; omega
      · have hj : ¬ (k : Int) < (b.length : Int) := by omega
        have hj2 : ¬ (a.length : Int) < (b.length : Int) := by omega
        have hj3 : (b.length : Int) < (a.length : Int) := by omega
        have HE := hide (cmpR_first a b k hlt (by omega))
        go_wp2_with fail
        go_ret
        exact ⟨by rw [HR.out, HE.out]; rfl, HEND.out⟩
    · have hi : ¬ (k : Int) < (a.length : Int) := by omega
      by_cases hlb : k < b.length
      · have hj : (a.length : Int) < (b.length : Int) := by omega
        have HE := hide (cmpR_second a b k (by omega) hlb)
        go_wp2_with fail
        go_ret
        exact ⟨by rw [HR.out, HE.out]; rfl, HEND.out⟩
      · have hj : ¬ (a.length : Int) < (b.length : Int) := by omega
        have hj3 : ¬ (b.length : Int) < (a.length : Int) := by omega
        have HE := hide (cmpR_none a b k (by omega) (by omega))
        go_wp2_with fail
        go_ret
        exact ⟨by rw [HR.out, HE.out]; rfl, HEND.out⟩
end Go.Proofs.YtpekemiplldlpaaDoor
