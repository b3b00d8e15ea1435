/-
  The walks of the statements on name: the first question, NameShows, NameCuts, NameRights.
-/
import Derived.Test.YtpekemiplldlpaaDoorNameF
import Derived.Test.YtpekemiplldlpaaDoorNameH
import Derived.Test.YtpekemiplldlpaaDoorNameK
namespace Go.Proofs.YtpekemiplldlpaaDoor
set_option linter.unusedVariables false
set_option linter.unusedSimpArgs false
open Go.RowKit

theorem bytes_of {l : List Int} (h : l.all (fun z => decide (0 ≤ z) && decide (z ≤ 255)) = true) : Nums.Bytes l := fun z hz => by
  have := List.all_eq_true.1 h z hz
  simpa using this

theorem ex1 : rightR (runes [97, 98]) = true := by decide +kernel
theorem ex2 : rightR (runes [230, 151, 165, 230, 156, 172]) = true := by decide +kernel
theorem ex3 : rightR (runes [97, 32, 98]) = false := by decide +kernel
theorem ex4 : rightR (runes []) = false := by decide +kernel
theorem ex5 : rightR (runes [49, 50, 51, 52, 53, 54, 55, 56, 57]) = false := by decide +kernel
theorem ex6 : seen [97, 32, 98] = [97, 60, 50, 48, 62, 98] := by decide +kernel

set_option maxHeartbeats 2000000 in
theorem awake_any (w : World) (ht : Tabs w) : Calls Tryd.prog 9 #[] w fun e w' => e = .returned (.bool true) ∧ Below w.heap.size w w' := by
  have H1 := hide (fun W => nright_any [97, 98] W (bytes_of rfl) (by decide))
  have H2 := hide (fun W => nright_any [230, 151, 165, 230, 156, 172] W (bytes_of rfl) (by decide))
  have H3 := hide (fun W => nright_any [97, 32, 98] W (bytes_of rfl) (by decide))
  have H4 := hide (fun W => nright_any [] W (bytes_of rfl) (by decide))
  have H5 := hide (fun W => nright_any [49, 50, 51, 52, 53, 54, 55, 56, 57] W (bytes_of rfl) (by decide))
  have H6 := hide (fun W hW => nshow_any [97, 32, 98] W hW (bytes_of rfl) (by decide))
  rw [ex1] at H1
  rw [ex2] at H2
  rw [ex3] at H3
  rw [ex4] at H4
  rw [ex5] at H5
  rw [ex6] at H6
  have HTB := hide ht
  clear ht
  go_enter Tryd.func9, Tryd.ntmps9
  go_wp2_with fail
  refine (H1.out _).mono ?_
  rintro e w1 ⟨rfl, hb1⟩
  have HB1 := hide hb1
  clear hb1
  go_wp2_with fail
  refine (H2.out _).mono ?_
  rintro e w2 ⟨rfl, hb2⟩
  have HB2 := hide (HB1.out.trans (hb2.mono HB1.out.size))
  clear hb2
  go_wp2_with fail
  refine (H3.out _).mono ?_
  rintro e w3 ⟨rfl, hb3⟩
  have HB3 := hide (HB2.out.trans (hb3.mono HB2.out.size))
  clear hb3
  go_wp2_with fail
  refine (H4.out _).mono ?_
  rintro e w4 ⟨rfl, hb4⟩
  have HB4 := hide (HB3.out.trans (hb4.mono HB3.out.size))
  clear hb4
  go_wp2_with fail
  refine (H5.out _).mono ?_
  rintro e w5 ⟨rfl, hb5⟩
  have HB5 := hide (HB4.out.trans (hb5.mono HB4.out.size))
  clear hb5
  go_wp2_with fail
  refine (H6.out _ (HTB.out.below HB5.out)).mono ?_
  rintro e w6 ⟨rfl, hb6⟩
  have HB6 := hide (HB5.out.trans (hb6.mono HB5.out.size))
  clear hb6
  go_wp2_with fail
  go_ret
  refine ⟨?_, HB6.out⟩
  show Ending.returned (Value.bool (_ == _)) = _
  rw [str_toList]
  rfl

theorem shows_walk_great (S : ByteArray) (w : World) (ht : Tabs w) (hs : S.size ≤ 9223372036854775807) (h : 300 < S.size) :
    Calls Tryd.prog 8 #[.string S] w fun e w' => e = .returned (.bool true) ∧ Below w.heap.size w w' := by
  have h1 : (300 : Int) < (S.size : Int) := by omega
  have HTB := hide ht
  clear ht
  go_enter Tryd.func8, Tryd.ntmps8
  go_wp2_with fail
  refine (awake_any _ HTB.out).mono ?_
  rintro e w1 ⟨rfl, hb1⟩
  have HB1 := hide hb1
  clear hb1
  go_wp2_with fail
  refine (awake_any w1 (HTB.out.below HB1.out)).mono ?_
  rintro e w2 ⟨rfl, hb2⟩
  have HB2 := hide (HB1.out.trans (hb2.mono HB1.out.size))
  clear hb2
  go_wp2_with fail
  go_ret
  exact ⟨rfl, HB2.out⟩

theorem shows_walk_small (l : List Int) (w : World) (ht : Tabs w) (hz : Nums.Bytes l) (h : l.length ≤ 300) :
    Calls Tryd.prog 8 #[.string (strOfNums l)] w fun e w' => e = .returned (.bool true) ∧ Below w.heap.size w w' := by
  have hsz := size_str l
  have h1 : ¬ (300 : Int) < ((strOfNums l).size : Int) := by omega
  have HS := hide (fun W (hW : Tabs W) => nshow_any l W hW hz (by omega))
  have HD := hide (fun W => rshow_any l W hz (by omega))
  have HR := hide (fun W => nright_any l W hz (by omega))
  have HTB := hide ht
  clear ht
  cases hr : rightR (runes l) with
  | true =>
    rw [hr] at HR
    rw [seen_same hz (right_of hr)] at HS HD
    clear hr
    generalize strOfNums l = S at *
    go_enter Tryd.func8, Tryd.ntmps8
    go_wp2_with fail
    refine (awake_any _ HTB.out).mono ?_
    rintro e w1 ⟨rfl, hb1⟩
    have HB1 := hide hb1
    clear hb1
    go_wp2_with fail
    refine (HS.out w1 (HTB.out.below HB1.out)).mono ?_
    rintro e w2 ⟨rfl, hb2⟩
    have HB2 := hide (HB1.out.trans (hb2.mono HB1.out.size))
    clear hb2
    go_wp2_with fail
    refine (HD.out w2).mono ?_
    rintro e w3 ⟨rfl, hb3⟩
    have HB3 := hide (HB2.out.trans (hb3.mono HB2.out.size))
    clear hb3
    go_wp2_with fail
    refine (HR.out w3).mono ?_
    rintro e w4 ⟨rfl, hb4⟩
    have HB4 := hide (HB3.out.trans (hb4.mono HB3.out.size))
    clear hb4
    go_wp2_with fail
    go_ret
    exact ⟨rfl, HB4.out⟩
  | false =>
    rw [hr] at HR
    clear hr
    generalize strOfNums l = S at *
    generalize strOfNums (seen l) = T at *
    go_enter Tryd.func8, Tryd.ntmps8
    go_wp2_with fail
    refine (awake_any _ HTB.out).mono ?_
    rintro e w1 ⟨rfl, hb1⟩
    have HB1 := hide hb1
    clear hb1
    go_wp2_with fail
    refine (HS.out w1 (HTB.out.below HB1.out)).mono ?_
    rintro e w2 ⟨rfl, hb2⟩
    have HB2 := hide (HB1.out.trans (hb2.mono HB1.out.size))
    clear hb2
    go_wp2_with fail
    refine (HD.out w2).mono ?_
    rintro e w3 ⟨rfl, hb3⟩
    have HB3 := hide (HB2.out.trans (hb3.mono HB2.out.size))
    clear hb3
    go_wp2_with fail
    refine (HR.out w3).mono ?_
    rintro e w4 ⟨rfl, hb4⟩
    have HB4 := hide (HB3.out.trans (hb4.mono HB3.out.size))
    clear hb4
    go_wp2_with fail
    go_ret
    exact ⟨rfl, HB4.out⟩

/-- NameShows. -/
theorem shows_walk (S : ByteArray) (w : World) (ht : Tabs w) (hs : S.size ≤ 9223372036854775807) :
    Calls Tryd.prog 8 #[.string S] w fun e w' => e = .returned (.bool true) ∧ Below w.heap.size w w' := by
  by_cases h : S.size ≤ 300
  · have := shows_walk_small (numsOf S) w ht (numsOf_bytes S) (by rw [numsOf_length]; exact h)
    rwa [str_numsOf] at this
  · exact shows_walk_great S w ht hs (by omega)

theorem bd_i32 {x : Int} (h : (Lit.int .i32 x).wf = true) : -2147483648 ≤ x ∧ x ≤ 2147483647 := by
  simpa [Lit.wf, IntKind.min, IntKind.max, IntKind.signed, IntKind.bits] using h
theorem rights_walk_great (S : ByteArray) (r : Int) (w : World) (ht : Tabs w) (hs : S.size ≤ 9223372036854775807) (h : 300 < S.size) :
    Calls Tryd.prog 4 #[.string S, .int .i32 r] w fun e w' => e = .returned (.bool true) ∧ Below w.heap.size w w' := by
  have h1 : (300 : Int) < (S.size : Int) := by omega
  have HTB := hide ht
  clear ht
  go_enter Tryd.func4, Tryd.ntmps4
  go_wp2_with fail
  refine (awake_any _ HTB.out).mono ?_
  rintro e w1 ⟨rfl, hb1⟩
  have HB1 := hide hb1
  clear hb1
  go_wp2_with fail
  refine (awake_any w1 (HTB.out.below HB1.out)).mono ?_
  rintro e w2 ⟨rfl, hb2⟩
  have HB2 := hide (HB1.out.trans (hb2.mono HB1.out.size))
  clear hb2
  go_wp2_with fail
  go_ret
  exact ⟨rfl, HB2.out⟩

theorem rights_walk_small (l : List Int) (r : Int) (w : World) (ht : Tabs w) (hz : Nums.Bytes l) (h : l.length ≤ 300) (hr : (Lit.int .i32 r).wf = true) :
    Calls Tryd.prog 4 #[.string (strOfNums l), .int .i32 r] w fun e w' => e = .returned (.bool true) ∧ Below w.heap.size w w' := by
  have hsz := size_str l
  have hbd := bd_i32 hr
  have h1 : ¬ (300 : Int) < ((strOfNums l).size : Int) := by omega
  have HR := hide (fun W => nright_any l W hz (by omega))
  have HD := hide (fun W => rright_any l W hz (by omega))
  have HO := hide (nof_any r)
  have HP := hide (rof_any r)
  have hwr : IntKind.i64.wrap r = r := by rw [IntKind.wrap_i64]; omega
  have HTB := hide ht
  clear ht hr
  generalize strOfNums l = S at *
  generalize rightR (runes l) = o at *
  generalize ofR r = p at *
  go_enter Tryd.func4, Tryd.ntmps4
  go_wp2_with fail
  refine (awake_any _ HTB.out).mono ?_
  rintro e w1 ⟨rfl, hb1⟩
  have HB1 := hide hb1
  clear hb1
  go_wp2_with fail
  refine (HR.out w1).mono ?_
  rintro e w2 ⟨rfl, hb2⟩
  have HB2 := hide (HB1.out.trans (hb2.mono HB1.out.size))
  clear hb2
  go_wp2_with fail
  refine (HD.out w2).mono ?_
  rintro e w3 ⟨rfl, hb3⟩
  have HB3 := hide (HB2.out.trans (hb3.mono HB2.out.size))
  clear hb3
  cases o
  all_goals
    go_wp2_with fail
    refine (HO.out w3).mono ?_
    rintro e w4 ⟨rfl, hw⟩
    obtain rfl := hw.symm
    go_wp2_with fail
    refine (HP.out w3).mono ?_
    rintro e w4 ⟨rfl, hw⟩
    obtain rfl := hw.symm
    cases p
    all_goals
      go_wp2_with fail
      go_ret
      exact ⟨rfl, HB3.out⟩

/-- NameRights. -/
theorem rights_walk (S : ByteArray) (r : Int) (w : World) (ht : Tabs w) (hs : S.size ≤ 9223372036854775807) (hr : (Lit.int .i32 r).wf = true) :
    Calls Tryd.prog 4 #[.string S, .int .i32 r] w fun e w' => e = .returned (.bool true) ∧ Below w.heap.size w w' := by
  by_cases h : S.size ≤ 300
  · have := rights_walk_small (numsOf S) r w ht (numsOf_bytes S) (by rw [numsOf_length]; exact h) hr
    rwa [str_numsOf] at this
  · exact rights_walk_great S r w ht hs (by omega)
end Go.Proofs.YtpekemiplldlpaaDoor
