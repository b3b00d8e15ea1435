/-
  The walks of NameOrders and NameBetween.
-/
import Derived.Test.YtpekemiplldlpaaDoorNameG
import Derived.Test.YtpekemiplldlpaaDoorNameL
import Derived.Test.YtpekemiplldlpaaDoorNameN
namespace Go.Proofs.YtpekemiplldlpaaDoor
set_option linter.unusedVariables false
set_option linter.unusedSimpArgs false
open Go.RowKit

theorem orders_great (S T : ByteArray) (w : World) (ht : Tabs w) (hs : S.size ≤ 9223372036854775807) (ht' : T.size ≤ 9223372036854775807) (h : 300 < S.size ∨ (¬ 300 < S.size ∧ 300 < T.size)) :
    Calls Tryd.prog 5 #[.string S, .string T] w fun e w' => e = .returned (.bool true) ∧ Below w.heap.size w w' := by
  have HTB := hide ht
  clear ht
  rcases (show (300 : Int) < (S.size : Int) ∨ (¬ (300 : Int) < (S.size : Int) ∧ (300 : Int) < (T.size : Int)) by omega) with h1 | ⟨h1, h2⟩
  all_goals
    clear h
    go_enter Tryd.func5, Tryd.ntmps5
    go_wp2_with fail
    refine (awake_any _ HTB.out).mono ?_
    rintro e w1 ⟨rfl, hb1⟩
    have HB1 := hide hb1
    clear hb1
    go_wp2_with fail
    refine (awake_any w1 (HTB.out.below HB1.out)).mono ?_
    rintro e w2 ⟨rfl, hb2⟩
    have HB2 := hide (HB1.out.trans (hb2.mono HB1.out.size))
    clear hb2
    go_wp2_with fail
    go_ret
    exact ⟨rfl, HB2.out⟩

set_option maxHeartbeats 1000000 in
theorem orders_small (l m : List Int) (w : World) (ht : Tabs w) (hz : Nums.Bytes l) (hy : Nums.Bytes m) (h : l.length ≤ 300) (h' : m.length ≤ 300) :
    Calls Tryd.prog 5 #[.string (strOfNums l), .string (strOfNums m)] w fun e w' => e = .returned (.bool true) ∧ Below w.heap.size w w' := by
  have hsz := size_str l
  have hsy := size_str m
  have h1 : ¬ (300 : Int) < ((strOfNums l).size : Int) := by omega
  have h2 : ¬ (300 : Int) < ((strOfNums m).size : Int) := by omega
  have HC := hide (fun W => ncompare_any l m W hz (by omega) hy (by omega))
  have HD := hide (fun W => rcompare_any l m W hz (by omega) hy (by omega))
  have HE := hide (fun W => ncompare_any m l W hy (by omega) hz (by omega))
  rw [cmpR_anti (runes l) (runes m)] at HE
  have HR := hide (fun W => rright_any l W hz (by omega))
  have HS := hide (fun W => rright_any m W hy (by omega))
  have HO : rightR (runes l) = true → rightR (runes m) = true → l.length ≤ 24 ∧ Op.bytesLess (strOfNums l).toList (strOfNums m).toList = decide (cmpR (runes l) (runes m) < 0) ∧ ((strOfNums l).toList == (strOfNums m).toList) = decide (cmpR (runes l) (runes m) = 0) :=
    fun p q => ⟨name_len hz p, names_order hz hy p q⟩
  have hv := cmpR_vals (runes l) (runes m)
  have HTB := hide ht
  clear ht
  generalize strOfNums l = S at *
  generalize strOfNums m = T at *
  generalize cmpR (runes l) (runes m) = c at *
  generalize rightR (runes l) = x at *
  generalize rightR (runes m) = y at *
  cases x
  · clear HO HS
    rcases hv with rfl | rfl | rfl
    all_goals
      go_enter Tryd.func5, Tryd.ntmps5
      go_wp2_with fail
      refine (awake_any _ HTB.out).mono ?_
      rintro e w1 ⟨rfl, hb1⟩
      have HB1 := hide hb1
      clear hb1
      go_wp2_with fail
      refine (HC.out w1).mono ?_
      rintro e w2 ⟨rfl, hb2⟩
      have HB2 := hide (HB1.out.trans (hb2.mono HB1.out.size))
      clear hb2
      go_wp2_with fail
      refine (HD.out w2).mono ?_
      rintro e w3 ⟨rfl, hb3⟩
      have HB3 := hide (HB2.out.trans (hb3.mono HB2.out.size))
      clear hb3
      go_wp2_with fail
      refine (HE.out w3).mono ?_
      rintro e w4 ⟨rfl, hb4⟩
      have HB4 := hide (HB3.out.trans (hb4.mono HB3.out.size))
      clear hb4
      go_wp2_with fail
      refine (HR.out w4).mono ?_
      rintro e w5 ⟨rfl, hb5⟩
      have HB5 := hide (HB4.out.trans (hb5.mono HB4.out.size))
      clear hb5
      go_wp2_with fail
      go_ret
      exact ⟨rfl, HB5.out⟩
  · cases y
    · clear HO
      rcases hv with rfl | rfl | rfl
      all_goals
        go_enter Tryd.func5, Tryd.ntmps5
        go_wp2_with fail
        refine (awake_any _ HTB.out).mono ?_
        rintro e w1 ⟨rfl, hb1⟩
        have HB1 := hide hb1
        clear hb1
        go_wp2_with fail
        refine (HC.out w1).mono ?_
        rintro e w2 ⟨rfl, hb2⟩
        have HB2 := hide (HB1.out.trans (hb2.mono HB1.out.size))
        clear hb2
        go_wp2_with fail
        refine (HD.out w2).mono ?_
        rintro e w3 ⟨rfl, hb3⟩
        have HB3 := hide (HB2.out.trans (hb3.mono HB2.out.size))
        clear hb3
        go_wp2_with fail
        refine (HE.out w3).mono ?_
        rintro e w4 ⟨rfl, hb4⟩
        have HB4 := hide (HB3.out.trans (hb4.mono HB3.out.size))
        clear hb4
        go_wp2_with fail
        refine (HR.out w4).mono ?_
        rintro e w5 ⟨rfl, hb5⟩
        have HB5 := hide (HB4.out.trans (hb5.mono HB4.out.size))
        clear hb5
        go_wp2_with fail
        refine (HS.out w5).mono ?_
        rintro e w6 ⟨rfl, hb6⟩
        have HB6 := hide (HB5.out.trans (hb6.mono HB5.out.size))
        clear hb6
        go_wp2_with fail
        go_ret
        exact ⟨rfl, HB6.out⟩
    · obtain ⟨h24, hlt, heq⟩ := HO rfl rfl
      have h25 : (l.length : Int) ≤ 24 := by omega
      clear HO h24
      rcases hv with rfl | rfl | rfl
      all_goals
        have hlt' := hlt
        have heq' := heq
        simp only [Int.reduceLT, Int.reduceEq, decide_true, decide_false, Int.reduceNeg] at hlt' heq'
        clear hlt heq
        go_enter Tryd.func5, Tryd.ntmps5
        go_wp2_with fail
        refine (awake_any _ HTB.out).mono ?_
        rintro e w1 ⟨rfl, hb1⟩
        have HB1 := hide hb1
        clear hb1
        go_wp2_with fail
        refine (HC.out w1).mono ?_
        rintro e w2 ⟨rfl, hb2⟩
        have HB2 := hide (HB1.out.trans (hb2.mono HB1.out.size))
        clear hb2
        go_wp2_with fail
        refine (HD.out w2).mono ?_
        rintro e w3 ⟨rfl, hb3⟩
        have HB3 := hide (HB2.out.trans (hb3.mono HB2.out.size))
        clear hb3
        go_wp2_with fail
        refine (HE.out w3).mono ?_
        rintro e w4 ⟨rfl, hb4⟩
        have HB4 := hide (HB3.out.trans (hb4.mono HB3.out.size))
        clear hb4
        go_wp2_with fail
        refine (HR.out w4).mono ?_
        rintro e w5 ⟨rfl, hb5⟩
        have HB5 := hide (HB4.out.trans (hb5.mono HB4.out.size))
        clear hb5
        go_wp2_with fail
        refine (HS.out w5).mono ?_
        rintro e w6 ⟨rfl, hb6⟩
        have HB6 := hide (HB5.out.trans (hb6.mono HB5.out.size))
        clear hb6
        go_wp2_with fail
        go_ret
        exact ⟨rfl, HB6.out⟩

/-- NameOrders. -/
theorem orders_walk (S T : ByteArray) (w : World) (ht : Tabs w) (hs : S.size ≤ 9223372036854775807) (ht' : T.size ≤ 9223372036854775807) :
    Calls Tryd.prog 5 #[.string S, .string T] w fun e w' => e = .returned (.bool true) ∧ Below w.heap.size w w' := by
  by_cases h : S.size ≤ 300
  · by_cases h' : T.size ≤ 300
    · have := orders_small (numsOf S) (numsOf T) w ht (numsOf_bytes S) (numsOf_bytes T) (by rw [numsOf_length]; exact h) (by rw [numsOf_length]; exact h')
      rwa [str_numsOf, str_numsOf] at this
    · exact orders_great S T w ht hs ht' (by omega)
  · exact orders_great S T w ht hs ht' (by omega)

theorem between_great (S T U : ByteArray) (w : World) (ht : Tabs w) (hs : S.size ≤ 9223372036854775807) (ht' : T.size ≤ 9223372036854775807) (hu' : U.size ≤ 9223372036854775807) (h : ¬ (S.size ≤ 100 ∧ T.size ≤ 100 ∧ U.size ≤ 100)) :
    Calls Tryd.prog 6 #[.string S, .string T, .string U] w fun e w' => e = .returned (.bool true) ∧ Below w.heap.size w w' := by
  have HTB := hide ht
  clear ht
  rcases (show (100 : Int) < (S.size : Int) ∨ (¬ (100 : Int) < (S.size : Int) ∧ (100 : Int) < (T.size : Int)) ∨ (¬ (100 : Int) < (S.size : Int) ∧ ¬ (100 : Int) < (T.size : Int) ∧ (100 : Int) < (U.size : Int)) by omega) with h1 | ⟨h1, h2⟩ | ⟨h1, h2, h3⟩
  all_goals
    clear h
    go_enter Tryd.func6, Tryd.ntmps6
    go_wp2_with fail
    refine (awake_any _ HTB.out).mono ?_
    rintro e w1 ⟨rfl, hb1⟩
    have HB1 := hide hb1
    clear hb1
    go_wp2_with fail
    refine (awake_any w1 (HTB.out.below HB1.out)).mono ?_
    rintro e w2 ⟨rfl, hb2⟩
    have HB2 := hide (HB1.out.trans (hb2.mono HB1.out.size))
    clear hb2
    go_wp2_with fail
    go_ret
    exact ⟨rfl, HB2.out⟩

set_option maxHeartbeats 2000000 in
theorem between_small (l m n : List Int) (w : World) (ht : Tabs w) (hz : Nums.Bytes l) (hy : Nums.Bytes m) (hx : Nums.Bytes n) (h : l.length ≤ 100) (h' : m.length ≤ 100) (h'' : n.length ≤ 100) :
    Calls Tryd.prog 6 #[.string (strOfNums l), .string (strOfNums m), .string (strOfNums n)] w fun e w' => e = .returned (.bool true) ∧ Below w.heap.size w w' := by
  have hsz := size_str l
  have hsy := size_str m
  have hsx := size_str n
  have h1 : ¬ (100 : Int) < ((strOfNums l).size : Int) := by omega
  have h2 : ¬ (100 : Int) < ((strOfNums m).size : Int) := by omega
  have h3 : ¬ (100 : Int) < ((strOfNums n).size : Int) := by omega
  have HC := hide (fun W => ncompare_any l m W hz (by omega) hy (by omega))
  have HD := hide (fun W => ncompare_any m n W hy (by omega) hx (by omega))
  have HE := hide (fun W => ncompare_any l n W hz (by omega) hx (by omega))
  have hv := cmpR_three (runes l) (runes m) (runes n)
  have v1 := cmpR_vals (runes l) (runes m)
  have v2 := cmpR_vals (runes m) (runes n)
  have v3 := cmpR_vals (runes l) (runes n)
  have HTB := hide ht
  clear ht
  generalize strOfNums l = S at *
  generalize strOfNums m = T at *
  generalize strOfNums n = U at *
  generalize cmpR (runes l) (runes m) = a at *
  generalize cmpR (runes m) (runes n) = b at *
  generalize cmpR (runes l) (runes n) = c at *
  rcases v1 with rfl | rfl | rfl <;> rcases v2 with rfl | rfl | rfl <;> rcases v3 with rfl | rfl | rfl
  all_goals try (exfalso; simp at hv; done)
  all_goals
    clear hv
    go_enter Tryd.func6, Tryd.ntmps6
    go_wp2_with fail
    refine (awake_any _ HTB.out).mono ?_
    rintro e w1 ⟨rfl, hb1⟩
    have HB1 := hide hb1
    clear hb1
    go_wp2_with fail
    refine (HC.out w1).mono ?_
    rintro e w2 ⟨rfl, hb2⟩
    have HB2 := hide (HB1.out.trans (hb2.mono HB1.out.size))
    clear hb2
    go_wp2_with fail
    refine (HD.out w2).mono ?_
    rintro e w3 ⟨rfl, hb3⟩
    have HB3 := hide (HB2.out.trans (hb3.mono HB2.out.size))
    clear hb3
    go_wp2_with fail
    refine (HE.out w3).mono ?_
    rintro e w4 ⟨rfl, hb4⟩
    have HB4 := hide (HB3.out.trans (hb4.mono HB3.out.size))
    clear hb4
    go_wp2_with fail
    go_ret
    exact ⟨rfl, HB4.out⟩

/-- NameBetween. -/
theorem between_walk (S T U : ByteArray) (w : World) (ht : Tabs w) (hs : S.size ≤ 9223372036854775807) (ht' : T.size ≤ 9223372036854775807) (hu' : U.size ≤ 9223372036854775807) :
    Calls Tryd.prog 6 #[.string S, .string T, .string U] w fun e w' => e = .returned (.bool true) ∧ Below w.heap.size w w' := by
  by_cases h : S.size ≤ 100 ∧ T.size ≤ 100 ∧ U.size ≤ 100
  · have := between_small (numsOf S) (numsOf T) (numsOf U) w ht (numsOf_bytes S) (numsOf_bytes T) (numsOf_bytes U) (by rw [numsOf_length]; exact h.1) (by rw [numsOf_length]; exact h.2.1) (by rw [numsOf_length]; exact h.2.2)
    rwa [str_numsOf, str_numsOf, str_numsOf] at this
  · exact between_great S T U w ht hs ht' hu' h
end Go.Proofs.YtpekemiplldlpaaDoor
