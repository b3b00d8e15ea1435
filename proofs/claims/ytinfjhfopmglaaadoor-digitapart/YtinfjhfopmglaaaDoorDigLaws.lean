/-
  The walks of the statements on digit (DigitShows, DigitReads), and their first question.
-/
import Derived.Test.YtinfjhfopmglaaaDoorDigC
namespace Go.Proofs.YtinfjhfopmglaaaDoor
set_option linter.unusedVariables false
set_option linter.unusedSimpArgs false
open Go.RowKit

theorem ex_handle : Dig.hread [51, 46, 49] = ((3, 1), true) := by decide +kernel
theorem ex_least : Dig.text (-9223372036854775808) = [45, 57, 50, 50, 51, 51, 55, 50, 48, 51, 54, 56, 53, 52, 55, 55, 53, 56, 48, 56] := by decide +kernel
theorem bytes_of {l : List Int} (h : l.all (fun z => decide (0 ≤ z) && decide (z ≤ 255)) = true) : Nums.Bytes l := fun z hz => by
  have := List.all_eq_true.1 h z hz
  simpa using this

set_option maxHeartbeats 1000000 in
theorem awake_any (w : World) (ht : Tabs w) : Calls Tryd.prog 8 #[] w fun e w' => e = .returned (.bool true) ∧ Below w.heap.size w w' := by
  have HR := hide (read_handle_any [51, 46, 49] w ht (bytes_of rfl) (by decide))
  rw [ex_handle] at HR
  have HS := hide (fun W (hW : Tabs W) => show_any (-9223372036854775808) W hW (by unfold Dig.fits; omega))
  rw [ex_least] at HS
  have HTB := hide ht
  clear ht
  go_enter Tryd.func8, Tryd.ntmps8
  go_wp2_with fail
  refine HR.out.mono ?_
  rintro e w1 ⟨rfl, hb1⟩
  have HB1 := hide hb1
  clear hb1
  go_wp2_with fail
  refine (HS.out _ (HTB.out.below (HB1.out.alloc HB1.out.size _))).mono ?_
  rintro e w2 ⟨rfl, hb2⟩
  have HB2 := hide hb2
  clear hb2
  go_wp2_with fail
  go_ret
  refine ⟨?_, HB1.out.trans (((Below.refl _ _).alloc (Nat.le_refl _) _).trans (HB2.out.mono (by simp)) |>.mono HB1.out.size)⟩
  show Ending.returned (Value.bool (_ == _)) = _
  rw [str_toList]
  rfl

/-- DigitShows. -/
theorem shows_walk (n : Int) (w : World) (ht : Tabs w) (hn : (Lit.int .i64 n).wf = true) :
    Calls Tryd.prog 3 #[.int .i64 n] w fun e w' => e = .returned (.bool true) ∧ Below w.heap.size w w' := by
  have hf : Dig.fits n := bd_i64 hn
  have HS := hide (fun W (hW : Tabs W) => show_any n W hW hf)
  have HR := hide (fun W (hW : Tabs W) => read_any (Dig.text n) W hW (Dig.text_bytes n) (Nat.le_trans Dig.text_length (by decide)))
  rw [Dig.read_text hf] at HR
  have HD := hide (fun W => ref_show_any n W hf)
  clear hn hf
  generalize strOfNums (Dig.text n) = S at *
  have HTB := hide ht
  clear ht
  go_enter Tryd.func3, Tryd.ntmps3
  go_wp2_with fail
  refine (awake_any _ HTB.out).mono ?_
  rintro e w1 ⟨rfl, hb1⟩
  have HB1 := hide hb1
  clear hb1
  go_wp2_with fail
  refine (HS.out w1 (HTB.out.below HB1.out)).mono ?_
  rintro e w2 ⟨rfl, hb2⟩
  have HB2 := hide (HB1.out.trans (hb2.mono HB1.out.size))
  clear hb2
  go_wp2_with fail
  refine (HR.out w2 (HTB.out.below HB2.out)).mono ?_
  rintro e w3 ⟨rfl, hb3⟩
  have HB3 := hide (HB2.out.trans (hb3.mono HB2.out.size))
  clear hb3
  go_wp2_with fail
  refine (HD.out w3).mono ?_
  rintro e w4 ⟨rfl, hb4⟩
  have HB4 := hide (HB3.out.trans (hb4.mono HB3.out.size))
  clear hb4
  go_wp2_with fail
  go_ret
  exact ⟨rfl, HB4.out⟩

theorem reads_walk_great (S : ByteArray) (w : World) (ht : Tabs w) (hs : S.size ≤ 9223372036854775807) (h : 200 < S.size) :
    Calls Tryd.prog 4 #[.string S] w fun e w' => e = .returned (.bool true) ∧ Below w.heap.size w w' := by
  have h1 : (200 : Int) < (S.size : Int) := by omega
  have HTB := hide ht
  clear ht
  go_enter Tryd.func4, Tryd.ntmps4
  go_wp2_with fail
  refine (awake_any _ HTB.out).mono ?_
  rintro e w1 ⟨rfl, hb1⟩
  have HB1 := hide hb1
  clear hb1
  go_wp2_with fail
  refine (awake_any w1 (HTB.out.below HB1.out)).mono ?_
  rintro e w2 ⟨rfl, hb2⟩
  have HB2 := hide (HB1.out.trans (hb2.mono HB1.out.size))
  clear hb2
  go_wp2_with fail
  go_ret
  exact ⟨rfl, HB2.out⟩

theorem reads_walk_small (l : List Int) (w : World) (ht : Tabs w) (hz : Nums.Bytes l) (h : l.length ≤ 200) :
    Calls Tryd.prog 4 #[.string (strOfNums l)] w fun e w' => e = .returned (.bool true) ∧ Below w.heap.size w w' := by
  have hsz := size_str l
  have h1 : ¬ (200 : Int) < ((strOfNums l).size : Int) := by omega
  have HR := hide (fun W (hW : Tabs W) => read_any l W hW hz (by omega))
  have HD := hide (fun W => ref_read_any l W hz (by unfold maxLen; omega))
  generalize strOfNums l = S at *
  generalize (Dig.read l).1 = x at *
  generalize (Dig.read l).2 = o at *
  have HTB := hide ht
  clear ht
  go_enter Tryd.func4, Tryd.ntmps4
  go_wp2_with fail
  refine (awake_any _ HTB.out).mono ?_
  rintro e w1 ⟨rfl, hb1⟩
  have HB1 := hide hb1
  clear hb1
  go_wp2_with fail
  refine (HR.out w1 (HTB.out.below HB1.out)).mono ?_
  rintro e w2 ⟨rfl, hb2⟩
  have HB2 := hide (HB1.out.trans (hb2.mono HB1.out.size))
  clear hb2
  go_wp2_with fail
  refine (HD.out w2).mono ?_
  rintro e w3 ⟨rfl, hb3⟩
  have HB3 := hide (HB2.out.trans (hb3.mono HB2.out.size))
  clear hb3
  cases o
  all_goals
    go_wp2_with fail
    go_ret
    exact ⟨rfl, HB3.out⟩

/-- DigitReads. -/
theorem reads_walk (S : ByteArray) (w : World) (ht : Tabs w) (hs : S.size ≤ 9223372036854775807) :
    Calls Tryd.prog 4 #[.string S] w fun e w' => e = .returned (.bool true) ∧ Below w.heap.size w w' := by
  by_cases h : S.size ≤ 200
  · have := reads_walk_small (numsOf S) w ht (numsOf_bytes S) (by rw [numsOf_length]; exact h)
    rwa [str_numsOf] at this
  · exact reads_walk_great S w ht hs (by omega)

theorem tickets_walk_great (S : ByteArray) (w : World) (ht : Tabs w) (hs : S.size ≤ 9223372036854775807) (h : 200 < S.size) :
    Calls Tryd.prog 6 #[.string S] w fun e w' => e = .returned (.bool true) ∧ Below w.heap.size w w' := by
  have h1 : (200 : Int) < (S.size : Int) := by omega
  have HTB := hide ht
  clear ht
  go_enter Tryd.func6, Tryd.ntmps6
  go_wp2_with fail
  refine (awake_any _ HTB.out).mono ?_
  rintro e w1 ⟨rfl, hb1⟩
  have HB1 := hide hb1
  clear hb1
  go_wp2_with fail
  refine (awake_any w1 (HTB.out.below HB1.out)).mono ?_
  rintro e w2 ⟨rfl, hb2⟩
  have HB2 := hide (HB1.out.trans (hb2.mono HB1.out.size))
  clear hb2
  go_wp2_with fail
  go_ret
  exact ⟨rfl, HB2.out⟩

theorem tickets_walk_small (l : List Int) (w : World) (ht : Tabs w) (hz : Nums.Bytes l) (h : l.length ≤ 200) :
    Calls Tryd.prog 6 #[.string (strOfNums l)] w fun e w' => e = .returned (.bool true) ∧ Below w.heap.size w w' := by
  have hsz := size_str l
  have h1 : ¬ (200 : Int) < ((strOfNums l).size : Int) := by omega
  have HR := hide (fun W (hW : Tabs W) => read_handle_any l W hW hz (by omega))
  have HD := hide (fun W => ref_read_handle_any l W hz (by omega))
  generalize strOfNums l = S at *
  generalize (Dig.hread l).1.1 = x at *
  generalize (Dig.hread l).1.2 = y at *
  generalize (Dig.hread l).2 = o at *
  have HTB := hide ht
  clear ht
  go_enter Tryd.func6, Tryd.ntmps6
  go_wp2_with fail
  refine (awake_any _ HTB.out).mono ?_
  rintro e w1 ⟨rfl, hb1⟩
  have HB1 := hide hb1
  clear hb1
  go_wp2_with fail
  refine (HR.out w1 (HTB.out.below HB1.out)).mono ?_
  rintro e w2 ⟨rfl, hb2⟩
  have HB2 := hide (HB1.out.trans (hb2.mono HB1.out.size))
  clear hb2
  go_wp2_with fail
  refine (HD.out _).mono ?_
  rintro e w3 ⟨rfl, hb3⟩
  have c0 : w3.cell? ⟨w2.heap.size, 0, none⟩ = some (.int .i64 x) := (hb3.cell (p := ⟨w2.heap.size, 0, none⟩) (by simp)).trans (by simp)
  have c1 : w3.cell? ⟨w2.heap.size, 1, none⟩ = some (.int .i64 y) := (hb3.cell (p := ⟨w2.heap.size, 1, none⟩) (by simp)).trans (by simp)
  have hg3 : w2.heap.size < w3.heap.size := Nat.lt_of_lt_of_le (by simp) hb3.size
  have HB3 : Hid (Below w.heap.size w w3) := HB2.out.trans ((((Below.refl _ _).alloc (Nat.le_refl _) _).trans (hb3.mono (by simp))).mono HB2.out.size)
  clear hb3
  cases o
  all_goals
    go_wp2_with fail
    go_ret
    exact ⟨rfl, HB3.out.alloc HB3.out.size _⟩

/-- DigitTickets. -/
theorem tickets_walk (S : ByteArray) (w : World) (ht : Tabs w) (hs : S.size ≤ 9223372036854775807) :
    Calls Tryd.prog 6 #[.string S] w fun e w' => e = .returned (.bool true) ∧ Below w.heap.size w w' := by
  by_cases h : S.size ≤ 200
  · have := tickets_walk_small (numsOf S) w ht (numsOf_bytes S) (by rw [numsOf_length]; exact h)
    rwa [str_numsOf] at this
  · exact tickets_walk_great S w ht hs (by omega)
end Go.Proofs.YtinfjhfopmglaaaDoor
