/-
  The walks of NameRunes and NameCuts.
-/
import Derived.Test.YtpekemiplldlpaaDoorNameL
namespace Go.Proofs.YtpekemiplldlpaaDoor
set_option linter.unusedVariables false
set_option linter.unusedSimpArgs false
open Go.RowKit

theorem runes_walk_great (S : ByteArray) (w : World) (ht : Tabs w) (hs : S.size ≤ 9223372036854775807) (h : 300 < S.size) :
    Calls Tryd.prog 3 #[.string S] w fun e w' => e = .returned (.bool true) ∧ Below w.heap.size w w' := by
  have h1 : (300 : Int) < (S.size : Int) := by omega
  have HTB := hide ht
  clear ht
  go_enter Tryd.func3, Tryd.ntmps3
  go_wp2_with fail
  refine (awake_any _ HTB.out).mono ?_
  rintro e w1 ⟨rfl, hb1⟩
  have HB1 := hide hb1
  clear hb1
  go_wp2_with fail
  refine (awake_any w1 (HTB.out.below HB1.out)).mono ?_
  rintro e w2 ⟨rfl, hb2⟩
  have HB2 := hide (HB1.out.trans (hb2.mono HB1.out.size))
  clear hb2
  go_wp2_with fail
  go_ret
  exact ⟨rfl, HB2.out⟩

set_option maxHeartbeats 1000000 in
theorem runes_walk_small (l : List Int) (w : World) (ht : Tabs w) (hz : Nums.Bytes l) (h : l.length ≤ 300) :
    Calls Tryd.prog 3 #[.string (strOfNums l)] w fun e w' => e = .returned (.bool true) ∧ Below w.heap.size w w' := by
  have hsz := size_str l
  have h1 : ¬ (300 : Int) < ((strOfNums l).size : Int) := by omega
  have HR := hide (fun W => nrunes_any l W hz (by omega))
  have HD := hide (fun W => rrunes_any l W hz (by omega))
  have hrl := runes_length hz
  have HLE := hide (runes_le hz)
  have HTB := hide ht
  clear ht
  generalize strOfNums l = S at *
  generalize runes l = a at *
  go_enter Tryd.func3, Tryd.ntmps3
  go_wp2_with fail
  refine (awake_any _ HTB.out).mono ?_
  rintro e w1 ⟨rfl, hb1⟩
  have HB1 := hide hb1
  clear hb1
  go_wp2_with fail
  refine (HR.out w1).mono ?_
  rintro e w2 ⟨x, cx, rfl, hle, hmax, hrow, hb2⟩
  have HB2 := hide (HB1.out.trans (hb2.mono HB1.out.size))
  have HRow := hide hrow
  clear hb2 hrow
  go_wp2_with fail
  refine (HD.out w2).mono ?_
  rintro e w3 ⟨y, cy, rfl, hle2, hmax2, hrow2, hb3⟩
  have HB3 := hide (HB2.out.trans (hb3.mono HB2.out.size))
  have HRow1 := hide (HRow.out.below hb3)
  have HRow2 := hide hrow2
  clear hb3 hrow2
  go_wp2_with fail
  go_loopw [5] (fun i wr => ∃ k : Nat, k ≤ a.length ∧ i = .int .i64 k ∧ Below w3.heap.size w3 wr) (fun i _ => a.length - (intOf i).toNat)
  case atStart => exact ⟨0, Nat.zero_le _, rfl, Below.refl _ _⟩
  case round =>
    obtain ⟨k, hka, rfl, hbr⟩ := hrel
    have HBR := hide hbr
    clear hbr
    have HEND := hide (HB3.out.trans (HBR.out.mono HB3.out.size))
    by_cases hlt : k < a.length
    · have hi : (k : Int) < (a.length : Int) := by omega
      obtain ⟨_, h0 | ⟨g, off, rfl, hbw, hc⟩⟩ := HRow1.out.below HBR.out
      · omega
      have hck := hc k hlt
      have hgd : (runeNums a).getD k 0 = ((a[k] : Nat) : Int) := by simp [runeNums, hlt]
      rw [hgd] at hck
      clear hc
      obtain ⟨_, h0 | ⟨g2, off2, rfl, hbw2, hc2⟩⟩ := HRow2.out.below HBR.out
      · omega
      have hck2 := hc2 k hlt
      rw [hgd] at hck2
      clear hc2 hgd
      have hle3 : a[k] ≤ 1114111 := HLE.out _ (List.getElem_mem hlt)
      have hwr : IntKind.i64.wrap ((a[k] : Nat) : Int) = ((a[k] : Nat) : Int) := by rw [IntKind.wrap_i64]; omega
      generalize ((a[k] : Nat) : Int) = p at *
      clear hle3
      go_wp2_with fail
      go_quiet (fail)
      go_wp2_with fail
      go_roundw
      case rel => exact ⟨k + 1, by omega, by go_num, HBR.out.trans ⟨rfl, rfl, rfl, Nat.le_refl _, fun _ _ => rfl⟩⟩
      case measure => simp [intOf]; omega
    · have hi : ¬ (k : Int) < (a.length : Int) := by omega
      go_wp2_with fail
      go_ret
      exact ⟨rfl, HEND.out⟩

/-- NameRunes. -/
theorem runes_walk (S : ByteArray) (w : World) (ht : Tabs w) (hs : S.size ≤ 9223372036854775807) :
    Calls Tryd.prog 3 #[.string S] w fun e w' => e = .returned (.bool true) ∧ Below w.heap.size w w' := by
  by_cases h : S.size ≤ 300
  · have := runes_walk_small (numsOf S) w ht (numsOf_bytes S) (by rw [numsOf_length]; exact h)
    rwa [str_numsOf] at this
  · exact runes_walk_great S w ht hs (by omega)

theorem cuts_walk_great (S : ByteArray) (n : Int) (w : World) (ht : Tabs w) (hs : S.size ≤ 9223372036854775807) (h : 300 < S.size) :
    Calls Tryd.prog 7 #[.string S, .int .i64 n] w fun e w' => e = .returned (.bool true) ∧ Below w.heap.size w w' := by
  have h1 : (300 : Int) < (S.size : Int) := by omega
  have HTB := hide ht
  clear ht
  go_enter Tryd.func7, Tryd.ntmps7
  go_wp2_with fail
  refine (awake_any _ HTB.out).mono ?_
  rintro e w1 ⟨rfl, hb1⟩
  have HB1 := hide hb1
  clear hb1
  go_wp2_with fail
  refine (awake_any w1 (HTB.out.below HB1.out)).mono ?_
  rintro e w2 ⟨rfl, hb2⟩
  have HB2 := hide (HB1.out.trans (hb2.mono HB1.out.size))
  clear hb2
  go_wp2_with fail
  go_ret
  exact ⟨rfl, HB2.out⟩

theorem cuts_walk_small (l : List Int) (n : Int) (w : World) (ht : Tabs w) (hz : Nums.Bytes l) (h : l.length ≤ 300) (hn : (Lit.int .i64 n).wf = true) :
    Calls Tryd.prog 7 #[.string (strOfNums l), .int .i64 n] w fun e w' => e = .returned (.bool true) ∧ Below w.heap.size w w' := by
  have hsz := size_str l
  obtain ⟨hn0, hn1⟩ := bd_i64 hn
  have h1 : ¬ (300 : Int) < ((strOfNums l).size : Int) := by omega
  have HR := hide (fun W => ncut_any l n W hz (by omega) hn0 hn1)
  have HD := hide (fun W => rcut_any l n W hz (by omega) hn0 hn1)
  have HTB := hide ht
  clear ht hn hn0 hn1
  obtain ⟨k, hk, ek⟩ := cutF_begin (n := n.toNat) (l := l)
  have hst := size_str (cutF n.toNat l)
  rw [ek, List.length_take, Nat.min_eq_left hk] at hst
  rw [ek] at HR HD
  have HX : Hid ((strOfNums l).extract 0 k = strOfNums (l.take k)) := str_head l k
  generalize strOfNums (l.take k) = T at *
  generalize strOfNums l = S at *
  have hks : (k : Int) ≤ (S.size : Int) := by omega
  have hx := HX.out
  clear ek
  go_enter Tryd.func7, Tryd.ntmps7
  go_wp2_with fail
  refine (awake_any _ HTB.out).mono ?_
  rintro e w1 ⟨rfl, hb1⟩
  have HB1 := hide hb1
  clear hb1
  go_wp2_with fail
  refine (HR.out w1).mono ?_
  rintro e w2 ⟨rfl, hb2⟩
  have HB2 := hide (HB1.out.trans (hb2.mono HB1.out.size))
  clear hb2
  go_wp2_with fail
  refine (HD.out w2).mono ?_
  rintro e w3 ⟨rfl, hb3⟩
  have HB3 := hide (HB2.out.trans (hb3.mono HB2.out.size))
  clear hb3
  go_wp2_with fail
  go_ret
  exact ⟨rfl, HB3.out⟩

/-- NameCuts. -/
theorem cuts_walk (S : ByteArray) (n : Int) (w : World) (ht : Tabs w) (hs : S.size ≤ 9223372036854775807) (hn : (Lit.int .i64 n).wf = true) :
    Calls Tryd.prog 7 #[.string S, .int .i64 n] w fun e w' => e = .returned (.bool true) ∧ Below w.heap.size w w' := by
  by_cases h : S.size ≤ 300
  · have := cuts_walk_small (numsOf S) n w ht (numsOf_bytes S) (by rw [numsOf_length]; exact h) hn
    rwa [str_numsOf] at this
  · exact cuts_walk_great S n w ht hs (by omega)
end Go.Proofs.YtpekemiplldlpaaDoor
