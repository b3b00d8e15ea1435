/-
  CrcJoins' walk.
-/
import Derived.Test.YthdbpnahjbnalaaCrcE
namespace Go.Proofs.Ythdbpnahjbnalaa
set_option linter.unusedVariables false
set_option linter.unusedSimpArgs false
open Go.RowKit

set_option maxHeartbeats 400000 in
theorem joins_walk_great (a : Option Addr) (len cap : Nat) (b : Option Addr) (len' cap' : Nat) (w : World) (hm : len ≤ maxLen) (hm' : len' ≤ maxLen) (hl : 300 < len ∨ 300 < len') :
    Calls Try.prog 6 #[.slice a len cap, .slice b len' cap'] w fun e w' => e = .returned (.bool true) ∧ Below w.heap.size w w' := by
  unfold maxLen at hm hm'
  have hl' : (300 : Int) < (len : Int) ∨ (¬ (300 : Int) < (len : Int) ∧ (300 : Int) < (len' : Int)) := by omega
  clear hl
  rcases hl' with h1 | ⟨h1, h2⟩
  all_goals
    go_enter Try.func6, Try.ntmps6
    go_wp2_with fail
    refine (awake_any _).mono ?_
    rintro e w1 ⟨rfl, hb1⟩
    have HB1 := hide hb1
    clear hb1
    go_wp2_with fail
    refine (awake_any w1).mono ?_
    rintro e w2 ⟨rfl, hb2⟩
    have HB2 := hide (HB1.out.trans (hb2.mono HB1.out.size))
    clear hb2
    go_wp2_with fail
    go_ret
    exact ⟨rfl, HB2.out⟩

set_option maxHeartbeats 1000000 in
theorem joins_walk_small (s t : Sl) (w : World) (h : s.ok w) (h' : t.ok w) (hl : s.len ≤ 300) (hl' : t.len ≤ 300) :
    Calls Try.prog 6 #[.slice s.a s.len s.cap, .slice t.a t.len t.cap] w fun e w' => e = .returned (.bool true) ∧ Below w.heap.size w w' := by
  have h1 : ¬ (300 : Int) < (s.len : Int) := by omega
  have h2 : ¬ (300 : Int) < (t.len : Int) := by omega
  clear hl hl'
  have HS := hide h
  have HT := hide h'
  clear h h'
  go_enter Try.func6, Try.ntmps6
  go_wp2_with fail
  refine (awake_any _).mono ?_
  rintro e w1 ⟨rfl, hb1⟩
  have HB1 := hide hb1
  clear hb1
  go_wp2_with fail
  refine (table_any w1).mono ?_
  rintro e w2 ⟨rfl, hb2⟩
  have HB2 := hide (HB1.out.trans (hb2.mono HB1.out.size))
  clear hb2
  obtain ⟨B, hB⟩ : ∃ B, B = blk .u32 (tab.map Int.ofNat) := ⟨_, rfl⟩
  rw [← hB]
  have HBB := hide hB
  clear hB
  go_wp2_with fail
  refine (sum_one s w2 (HS.out.below HB2.out)).mono ?_
  rintro e w3 ⟨rfl, hb3⟩
  have HB3 := hide (HB2.out.trans (hb3.mono HB2.out.size))
  clear hb3
  have hT3 := HT.out.below HB3.out
  have HM := hide (more_any tab (Crc.sum s.zs) t.a t.len t.cap t.zs w3 tab_length tab_lt (sum_lt _) hT3.1 hT3.2.1 hT3.2.2)
  rw [← HBB.out, sum_on s.zs t.zs HS.out.2.2] at HM
  clear hT3
  generalize Crc.sum s.zs = y at *
  go_wp2_with fail
  refine HM.out.mono ?_
  rintro e w4 ⟨rfl, hb4⟩
  have HB4 := hide (HB3.out.trans (hb4.mono HB3.out.size))
  clear hb4 HM
  have H2 := hide (sum_two s t w4 (HS.out.below HB4.out) (HT.out.below HB4.out))
  generalize Crc.sum (s.zs ++ t.zs) = y2 at *
  go_wp2_with fail
  refine H2.out.mono ?_
  rintro e w5 ⟨rfl, hb5⟩
  have HB5 := hide (HB4.out.trans (hb5.mono HB4.out.size))
  clear hb5
  go_wp2_with fail
  go_ret
  exact ⟨rfl, HB5.out⟩

theorem Arg.sl {w : World} {a : Option Addr} {len cap : Nat} {zs : List Int} (h : Arg .u8 w a len cap zs) : (Sl.mk a len cap zs).ok w := ⟨Nat.le_trans h.1 h.2.1, h.2.2.1, h.bytes⟩

theorem joins_walk (a : Option Addr) (len cap : Nat) (zs : List Int) (b : Option Addr) (len' cap' : Nat) (zs' : List Int) (w : World) (hA : Arg .u8 w a len cap zs) (hB : Arg .u8 w b len' cap' zs') :
    Calls Try.prog 6 #[.slice a len cap, .slice b len' cap'] w fun e w' => e = .returned (.bool true) ∧ Below w.heap.size w w' := by
  by_cases h : len ≤ 300 ∧ len' ≤ 300
  · exact joins_walk_small ⟨a, len, cap, zs⟩ ⟨b, len', cap', zs'⟩ w hA.sl hB.sl h.1 h.2
  · exact joins_walk_great a len cap b len' cap' w (Nat.le_trans hA.1 hA.2.1) (Nat.le_trans hB.1 hB.2.1) (by omega)
end Go.Proofs.Ythdbpnahjbnalaa
