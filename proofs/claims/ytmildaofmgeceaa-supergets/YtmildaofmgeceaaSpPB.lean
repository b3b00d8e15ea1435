/-
  super.each: a superblock's numbers, one behind the other, handed to a closure.
-/
import Derived.Test.YtmildaofmgeceaaSpNums
import Derived.Test.YtmildaofmgeceaaBkProg
import Derived.Handy
namespace Go.Proofs.Ytmildaofmgeceaa
set_option linter.unusedVariables false
set_option linter.unusedSimpArgs false
open Go.RowKit

set_option maxRecDepth 100000 in
set_option maxHeartbeats 2000000 in
theorem speach_any {w : World} (I : Nat → World → Prop) (f : FuncId) (caps : Array Value) (gs : Nat) (ca : Option Addr) (n cc b off : Nat)
    (hf : ∀ args w, (callFunc f args).run Try.prog w = .ok (.enter f args) w)
    (hcell : ∀ k W, I k W → W.cell? ⟨gs, 8, none⟩ = some (.slice ca n cc)) (hn : n ≤ 1000) (hca : 0 < n → ca = some ⟨b, off, none⟩) (hi : I 0 w)
    (h0 : ∀ W, I 0 W → Calls Try.prog f (#[.pointer (some ⟨gs, 0, none⟩), .int .i64 8] ++ caps) W fun e w' => e = .returned (.tuple #[]) ∧ I 1 w')
    (h1 : ∀ W, I 1 W → Calls Try.prog f (#[.pointer (some ⟨gs, 1, none⟩), .int .i64 4] ++ caps) W fun e w' => e = .returned (.tuple #[]) ∧ I 2 w')
    (h2 : ∀ W, I 2 W → Calls Try.prog f (#[.pointer (some ⟨gs, 2, none⟩), .int .i64 4] ++ caps) W fun e w' => e = .returned (.tuple #[]) ∧ I 3 w')
    (h3 : ∀ W, I 3 W → Calls Try.prog f (#[.pointer (some ⟨gs, 3, none⟩), .int .i64 4] ++ caps) W fun e w' => e = .returned (.tuple #[]) ∧ I 4 w')
    (h4 : ∀ W, I 4 W → Calls Try.prog f (#[.pointer (some ⟨gs, 5, none⟩), .int .i64 4] ++ caps) W fun e w' => e = .returned (.tuple #[]) ∧ I 5 w')
    (h5 : ∀ W, I 5 W → Calls Try.prog f (#[.pointer (some ⟨gs, 6, none⟩), .int .i64 4] ++ caps) W fun e w' => e = .returned (.tuple #[]) ∧ I 6 w')
    (h6 : ∀ W, I 6 W → Calls Try.prog f (#[.pointer (some ⟨gs, 4, none⟩), .int .i64 2] ++ caps) W fun e w' => e = .returned (.tuple #[]) ∧ I 7 w')
    (h7 : ∀ W, I 7 W → Calls Try.prog f (#[.pointer (some ⟨gs, 7, none⟩), .int .i64 2] ++ caps) W fun e w' => e = .returned (.tuple #[]) ∧ I 8 w')
    (hj : ∀ j W, j < n → I (8 + j) W → Calls Try.prog f (#[.pointer (some ⟨b, off + j, none⟩), .int .i64 2] ++ caps) W fun e w' => e = .returned (.tuple #[]) ∧ I (8 + (j + 1)) w') :
    Calls Try.prog 18 #[.pointer (some ⟨gs, 0, none⟩), .func (.func f) #[] caps] w fun e w' => e = .returned (.tuple #[]) ∧ I (8 + n) w' := by
  have HC := hide hcell
  have HI0 := hide hi
  have H0 := hide h0
  have H1 := hide h1
  have H2 := hide h2
  have H3 := hide h3
  have H4 := hide h4
  have H5 := hide h5
  have H6 := hide h6
  have H7 := hide h7
  have HJ := hide hj
  clear hcell hi h0 h1 h2 h3 h4 h5 h6 h7 hj
  go_enter Try.func18, Try.ntmps18
  go_wp2_with fail
  refine (H0.out _ HI0.out).mono ?_
  rintro e w1 ⟨rfl, hi1⟩
  have HI1 := hide hi1
  clear hi1
  go_wp2_with fail
  refine (H1.out _ HI1.out).mono ?_
  rintro e w2 ⟨rfl, hi2⟩
  have HI2 := hide hi2
  clear hi2
  go_wp2_with fail
  refine (H2.out _ HI2.out).mono ?_
  rintro e w3 ⟨rfl, hi3⟩
  have HI3 := hide hi3
  clear hi3
  go_wp2_with fail
  refine (H3.out _ HI3.out).mono ?_
  rintro e w4 ⟨rfl, hi4⟩
  have HI4 := hide hi4
  clear hi4
  go_wp2_with fail
  refine (H4.out _ HI4.out).mono ?_
  rintro e w5 ⟨rfl, hi5⟩
  have HI5 := hide hi5
  clear hi5
  go_wp2_with fail
  refine (H5.out _ HI5.out).mono ?_
  rintro e w6 ⟨rfl, hi6⟩
  have HI6 := hide hi6
  clear hi6
  go_wp2_with fail
  refine (H6.out _ HI6.out).mono ?_
  rintro e w7 ⟨rfl, hi7⟩
  have HI7 := hide hi7
  clear hi7
  go_wp2_with fail
  refine (H7.out _ HI7.out).mono ?_
  rintro e w8 ⟨rfl, hi8⟩
  have c8 := HC.out _ _ hi8
  have HI8 := hide hi8
  clear hi8
  go_wp2_with fail
  go_loopw [59] (fun i wr => ∃ j : Nat, j ≤ n ∧ i = .int .i64 j ∧ I (8 + j) wr) (fun i _ => n - (intOf i).toNat)
  case atStart => exact ⟨0, Nat.zero_le _, rfl, HI8.out⟩
  case round =>
    obtain ⟨j, hjn, rfl, hij⟩ := hrel
    have cj := HC.out _ _ hij
    by_cases hlt : j < n
    · have hjI : (j : Int) < (n : Int) := by omega
      obtain rfl := hca (by omega)
      have HX := hide (HJ.out j _ hlt hij)
      clear hij
      go_wp2_with fail
      refine HX.out.mono ?_
      rintro e w9 ⟨rfl, hi9⟩
      have HI9 := hide hi9
      clear hi9
      go_wp2_with fail
      go_roundw
      case rel => exact ⟨j + 1, by omega, by go_num, HI9.out⟩
      case measure => simp [intOf]; omega
    · have hjI : ¬ (j : Int) < (n : Int) := by omega
      obtain rfl : j = n := by omega
      have HE := hide hij
      clear hij
      go_wp2_with fail
      go_end0
      exact ⟨rfl, HE.out⟩
end Go.Proofs.Ytmildaofmgeceaa
