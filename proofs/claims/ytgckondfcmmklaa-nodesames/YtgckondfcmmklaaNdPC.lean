/-
  node.Right: what it answers.
-/
import Derived.Test.YtgckondfcmmklaaNdPA
import Derived.Test.YtgckondfcmmklaaBkProg
import Derived.Test.YtgckondfcmmklaaClone
namespace Go.Proofs.Ytgckondfcmmklaa
set_option linter.unusedVariables false
set_option linter.unusedSimpArgs false
open Go.RowKit

set_option maxRecDepth 100000 in
set_option maxHeartbeats 1000000 in
theorem nright_yes (s g k v : Int) (l : List Int) (w : World) (a : Option Addr) (len cap : Nat) (hA : Arg .i64 w a len cap l) (hl : len ≤ 1000000) (h : Nd.headB ⟨s, g, k, v, l⟩ = true) :
    Calls Try.prog 10 #[.agg #[.int .i64 s, .int .i64 g, .int .i64 k, .int .i64 v, .slice a len cap]] w fun e w' => e = .returned (.bool (l.all Nd.kidB)) ∧ Below w.heap.size w w' := by
  have hh := of_decide_eq_true h
  obtain ⟨h1, h2, h3, h4, h5⟩ := hh
  have hzl := hA.2.2.1.1
  simp only at h1 h2 h3 h4 h5
  have hlI : (len : Int) ≤ 12 := by omega
  have HR := hide hA.2.2.1
  obtain ⟨X, hX⟩ : ∃ X, X = ((w.alloc (.cells #[.int .i64 s, .int .i64 g, .int .i64 k, .int .i64 v, .slice a len cap] 28)).alloc (.cells #[.int .i64 s, .int .i64 g] 23)) := ⟨_, rfl⟩
  have HBW : Hid (Below w.heap.size w X) := by rw [hX]; exact ((Below.refl w.heap.size w).alloc (Nat.le_refl _) _).alloc (by simp) _
  have H1 := hide (fun W => between_any s 0 1791 W)
  have H2 := hide (fun W => between_any g 1 4294967295 W)
  rw [decide_eq_true (show 0 ≤ s ∧ s ≤ 1791 from ⟨h1, h2⟩)] at H1
  rw [decide_eq_true (show 1 ≤ g ∧ g ≤ 4294967295 from ⟨h3, h4⟩)] at H2
  clear h hA h5
  go_enter Try.func10, Try.ntmps10
  go_wp2_with (first | (go_at_call_of 22 (Value.int .i64 1791); refine (H1.out _).mono ?_; rintro e w' ⟨rfl, hw'⟩; obtain rfl := hw'.symm) | (go_at_call_of 22 (Value.int .i64 4294967295); refine (H2.out _).mono ?_; rintro e w' ⟨rfl, hw'⟩; obtain rfl := hw'.symm))
  rw [← hX]
  clear hX
  go_loop [28] (fun i => ∃ j : Nat, j ≤ len ∧ i = .int .i64 j ∧ (l.take j).all Nd.kidB = true) (fun i => len - (intOf i).toNat)
  case atStart => exact ⟨0, Nat.zero_le _, rfl, rfl⟩
  case round =>
    obtain ⟨j, hj, rfl, htk⟩ := hrel
    by_cases hlt : j < len
    · have hjI : (j : Int) < (len : Int) := by omega
      have HT : Hid ((l.take (j + 1)).all Nd.kidB = Nd.kidB (l.getD j 0)) := by
        show _ = _
        rw [List.take_succ_eq_append_getElem (by omega), List.all_append, List.getD_eq_getElem?_getD, List.getElem?_eq_getElem (by omega), htk]
        simp
      have HF : Hid (Nd.kidB (l.getD j 0) = false → l.all Nd.kidB = false) := fun e => by
        rw [← List.take_append_drop (j + 1) l, List.all_append, HT.out, e]
        rfl
      obtain ⟨hL, h0 | ⟨b, off, rfl, hbw, hc⟩⟩ := HR.out.below HBW.out
      · omega
      have hck := hc j hlt
      clear hc hbw htk
      generalize l.getD j 0 = z at *
      have HZ := hide (fun W => between_any z 2 3071 W)
      have hq : decide (2 ≤ z ∧ z ≤ 3071) = Nd.kidB z := rfl
      rw [hq] at HZ
      clear hq
      generalize Nd.kidB z = q at *
      cases q with
      | true =>
        go_wp2_with (go_at_call 22; refine (HZ.out _).mono ?_; rintro e w' ⟨rfl, hw'⟩; obtain rfl := hw'.symm)
        go_round
        case rel => exact ⟨j + 1, by omega, by go_num, HT.out⟩
        case measure => simp [intOf]; omega
      | false =>
        have HFF := hide (HF.out rfl)
        clear HF HT
        go_wp2_with (go_at_call 22; refine (HZ.out _).mono ?_; rintro e w' ⟨rfl, hw'⟩; obtain rfl := hw'.symm)
        go_ret
        exact ⟨by rw [HFF.out]; rfl, HBW.out⟩
    · have hjI : ¬ (j : Int) < (len : Int) := by omega
      have HE : Hid (l.all Nd.kidB = true) := by
        show _ = _
        rwa [List.take_of_length_le (by omega)] at htk
      clear htk
      go_wp2_with fail
      go_ret
      exact ⟨by rw [HE.out]; rfl, HBW.out⟩

set_option maxRecDepth 100000 in
set_option maxHeartbeats 1000000 in
theorem nright_any (s g k v : Int) (l : List Int) (w : World) (a : Option Addr) (len cap : Nat) (hA : Arg .i64 w a len cap l) (hl : len ≤ 1000000) :
    Calls Try.prog 10 #[.agg #[.int .i64 s, .int .i64 g, .int .i64 k, .int .i64 v, .slice a len cap]] w fun e w' => e = .returned (.bool (Nd.right ⟨s, g, k, v, l⟩)) ∧ Below w.heap.size w w' := by
  by_cases h : Nd.headB ⟨s, g, k, v, l⟩ = true
  · have hy := nright_yes s g k v l w a len cap hA hl h
    rw [right_eq, h, Bool.true_and]
    exact hy
  · have hf : Nd.headB ⟨s, g, k, v, l⟩ = false := by simpa using h
    rw [right_eq, hf, Bool.false_and]
    have hzl := hA.2.2.1.1
    have hn : ¬ (0 ≤ s ∧ s ≤ 1791 ∧ 1 ≤ g ∧ g ≤ 4294967295 ∧ (len : Int) ≤ 12) := fun e => h (decide_eq_true ⟨e.1, e.2.1, e.2.2.1, e.2.2.2.1, by have := e.2.2.2.2; simp only; omega⟩)
    obtain ⟨X, hX⟩ : ∃ X, X = ((w.alloc (.cells #[.int .i64 s, .int .i64 g, .int .i64 k, .int .i64 v, .slice a len cap] 28)).alloc (.cells #[.int .i64 s, .int .i64 g] 23)) := ⟨_, rfl⟩
    have HBW : Hid (Below w.heap.size w X) := by rw [hX]; exact ((Below.refl w.heap.size w).alloc (Nat.le_refl _) _).alloc (by simp) _
    have H1 := hide (fun W => between_any s 0 1791 W)
    have H2 := hide (fun W => between_any g 1 4294967295 W)
    clear hA h hf
    by_cases c0 : 0 ≤ s ∧ s ≤ 1791
    rotate_left
    · rw [decide_eq_false c0] at H1
      clear hn
      go_enter Try.func10, Try.ntmps10
      go_wp2_with (go_at_call_of 22 (Value.int .i64 1791); refine (H1.out _).mono ?_; rintro e w' ⟨rfl, hw'⟩; obtain rfl := hw'.symm)
      rw [← hX]
      go_ret
      exact ⟨rfl, HBW.out⟩
    rw [decide_eq_true c0] at H1
    by_cases c1 : 1 ≤ g ∧ g ≤ 4294967295
    rotate_left
    · rw [decide_eq_false c1] at H2
      clear hn
      go_enter Try.func10, Try.ntmps10
      go_wp2_with (first | (go_at_call_of 22 (Value.int .i64 1791); refine (H1.out _).mono ?_; rintro e w' ⟨rfl, hw'⟩; obtain rfl := hw'.symm) | (go_at_call_of 22 (Value.int .i64 4294967295); refine (H2.out _).mono ?_; rintro e w' ⟨rfl, hw'⟩; obtain rfl := hw'.symm))
      rw [← hX]
      go_ret
      exact ⟨rfl, HBW.out⟩
    rw [decide_eq_true c1] at H2
    have c2 : (12 : Int) < (len : Int) := by omega
    clear hn
    go_enter Try.func10, Try.ntmps10
    go_wp2_with (first | (go_at_call_of 22 (Value.int .i64 1791); refine (H1.out _).mono ?_; rintro e w' ⟨rfl, hw'⟩; obtain rfl := hw'.symm) | (go_at_call_of 22 (Value.int .i64 4294967295); refine (H2.out _).mono ?_; rintro e w' ⟨rfl, hw'⟩; obtain rfl := hw'.symm))
    rw [← hX]
    go_ret
    exact ⟨rfl, HBW.out⟩
end Go.Proofs.Ytgckondfcmmklaa
