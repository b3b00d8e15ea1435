/-
  node.between, Right, Same, Compare; slices.Equal, cmp.Compare, cmp.Or: what they answer.
-/
import Derived.Test.YtgckondfcmmklaaRefNdD
namespace Go.Proofs.Ytgckondfcmmklaa
set_option linter.unusedVariables false
set_option linter.unusedSimpArgs false
open Go.RowKit

/-- -1, 0 or 1: how entries are ordered. -/
def cmpB (s g k s' g' k' : Int) : Int := if aheadB s g k s' g' k' = true then -1 else if aheadB s' g' k' s g k = true then 1 else 0
/-- -1, 0 or 1: how numbers are ordered. -/
def cmpI (x y : Int) : Int := if x < y then -1 else if y < x then 1 else 0

set_option maxHeartbeats 400000 in
theorem between_any (v a b : Int) (w : World) : Calls Try.prog 22 #[.int .i64 v, .int .i64 a, .int .i64 b] w fun e w' => e = .returned (.bool (decide (a ≤ v ∧ v ≤ b))) ∧ w' = w := by
  by_cases c1 : a ≤ v
  · by_cases c2 : v ≤ b
    · rw [decide_eq_true (show a ≤ v ∧ v ≤ b from ⟨c1, c2⟩)]
      go_enter Try.func22, Try.ntmps22
      go_wp2
      go_ret
      exact ⟨rfl, rfl⟩
    · rw [decide_eq_false (show ¬ (a ≤ v ∧ v ≤ b) from fun h => c2 h.2)]
      go_enter Try.func22, Try.ntmps22
      go_wp2
      go_ret
      exact ⟨rfl, rfl⟩
  · rw [decide_eq_false (show ¬ (a ≤ v ∧ v ≤ b) from fun h => c1 h.1)]
    go_enter Try.func22, Try.ntmps22
    go_wp2
    go_ret
    exact ⟨rfl, rfl⟩

set_option maxHeartbeats 400000 in
theorem isnan_any (v : Int) (w : World) : Calls Try.prog 44 #[.int .i64 v] w fun e w' => e = .returned (.bool false) ∧ w' = w := by
  go_enter Try.func44, Try.ntmps44
  go_wp2
  go_ret
  exact ⟨by simp, rfl⟩

set_option maxHeartbeats 400000 in
theorem cmpcompare_any (x y : Int) (w : World) : Calls Try.prog 33 #[.int .i64 x, .int .i64 y] w fun e w' => e = .returned (.int .i64 (cmpI x y)) ∧ w' = w := by
  have HX := hide (isnan_any x w)
  have HY := hide (isnan_any y w)
  unfold cmpI
  by_cases c1 : x < y
  · rw [if_pos c1]
    go_enter Try.func33, Try.ntmps33
    go_wp2_with (first | (go_at_call_of 44 (Value.int .i64 x); refine HX.out.mono ?_; rintro e w' ⟨rfl, hw'⟩; obtain rfl := hw'.symm) | (go_at_call_of 44 (Value.int .i64 y); refine HY.out.mono ?_; rintro e w' ⟨rfl, hw'⟩; obtain rfl := hw'.symm))
    go_ret
    exact ⟨rfl, rfl⟩
  · rw [if_neg c1]
    by_cases c2 : y < x
    · rw [if_pos c2]
      go_enter Try.func33, Try.ntmps33
      go_wp2_with (first | (go_at_call_of 44 (Value.int .i64 x); refine HX.out.mono ?_; rintro e w' ⟨rfl, hw'⟩; obtain rfl := hw'.symm) | (go_at_call_of 44 (Value.int .i64 y); refine HY.out.mono ?_; rintro e w' ⟨rfl, hw'⟩; obtain rfl := hw'.symm))
      go_ret
      exact ⟨rfl, rfl⟩
    · rw [if_neg c2]
      go_enter Try.func33, Try.ntmps33
      go_wp2_with (first | (go_at_call_of 44 (Value.int .i64 x); refine HX.out.mono ?_; rintro e w' ⟨rfl, hw'⟩; obtain rfl := hw'.symm) | (go_at_call_of 44 (Value.int .i64 y); refine HY.out.mono ?_; rintro e w' ⟨rfl, hw'⟩; obtain rfl := hw'.symm))
      go_ret
      exact ⟨rfl, rfl⟩

set_option maxRecDepth 100000 in
set_option maxHeartbeats 1000000 in
theorem sequal_any {w : World} {a c : Option Addr} {n m cap cap' : Nat} {L M : List Int} (hn : n ≤ 1000000) (hm : m ≤ 1000000) (ha : Row .i64 w a n L) (hc : Row .i64 w c m M) :
    Calls Try.prog 28 #[.slice a n cap, .slice c m cap'] w fun e w' => e = .returned (.bool (decide (L = M))) ∧ Below w.heap.size w w' := by
  by_cases hnm : n = m
  · subst hnm
    have hL := ha.1
    have hM := hc.1
    have HA := hide ha
    have HC := hide hc
    clear ha hc
    go_enter Try.func28, Try.ntmps28
    go_wp2_with fail
    go_loopw [13] (fun i wr => ∃ k : Nat, k ≤ n ∧ i = .int .i64 k ∧ Below w.heap.size w wr ∧ L.take k = M.take k) (fun i _ => n - (intOf i).toNat)
    case atStart => exact ⟨0, Nat.zero_le _, rfl, Below.refl _ _, rfl⟩
    case round =>
      obtain ⟨k, hk, rfl, hb, htk⟩ := hrel
      have HB := hide hb
      have HT := hide htk
      clear htk
      by_cases hlt : k < n
      · have hkn : (k : Int) < (n : Int) := by omega
        obtain ⟨_, h0 | ⟨b, off, rfl, hbw, hca⟩⟩ := HA.out.below hb
        · omega
        obtain ⟨_, h0 | ⟨b', off', rfl, hbw', hcb⟩⟩ := HC.out.below hb
        · omega
        have ka := hca k hlt
        have kb := hcb k hlt
        have HG : Hid (L.getD k 0 = M.getD k 0 → L.take (k + 1) = M.take (k + 1)) := fun e => by
          rw [List.take_succ_eq_append_getElem (by omega), List.take_succ_eq_append_getElem (by omega), HT.out]
          rw [List.getD_eq_getElem?_getD, List.getElem?_eq_getElem (by omega), List.getD_eq_getElem?_getD, List.getElem?_eq_getElem (by omega)] at e
          simp only [Option.getD_some] at e
          rw [e]
        have HD : Hid (L.getD k 0 ≠ M.getD k 0 → L ≠ M) := take_differ
        clear hca hcb hb hbw hbw' hL hM
        generalize L.getD k 0 = x at *
        generalize M.getD k 0 = y at *
        by_cases hxy : x = y
        · subst hxy
          have HG' := hide (HG.out rfl)
          clear HG HD
          go_wp2_with fail
          go_region
          go_wp2_with fail
          go_roundw
          case rel => exact ⟨k + 1, by omega, by go_num, HB.out.drew, HG'.out⟩
          case measure => simp [intOf]; omega
        · have hd : (x != y) = true := by simpa using hxy
          have HF : Hid (decide (L = M) = false) := decide_eq_false (HD.out hxy)
          clear HG HD
          go_wp2_with fail
          go_region
          go_wp2_with fail
          go_ret
          exact ⟨by rw [HF.out]; rfl, HB.out.drew⟩
      · have hkn : ¬ (k : Int) < (n : Int) := by omega
        have HE : Hid (decide (L = M) = true) := decide_eq_true (by
          have := HT.out
          rwa [List.take_of_length_le (by omega), List.take_of_length_le (by omega)] at this)
        go_wp2_with fail
        go_ret
        exact ⟨by rw [HE.out]; rfl, HB.out⟩
  · have hF : decide (L = M) = false := decide_eq_false (fun e => hnm (by rw [← ha.1, ← hc.1, e]))
    rw [hF]
    have hI : ¬ (n : Int) = (m : Int) := by omega
    have hbn : ((n : Int) != (m : Int)) = true := by simp [bne, hI]
    clear ha hc hF
    go_enter Try.func28, Try.ntmps28
    go_wp2_with fail
    go_ret
    exact ⟨rfl, Below.refl _ _⟩

set_option maxRecDepth 100000 in
set_option maxHeartbeats 1000000 in
theorem nsame_any (s g k v s' g' k' v' : Int) (l l' : List Int) (w : World) (a a' : Option Addr) (len cap len' cap' : Nat) (hA : Arg .i64 w a len cap l) (hl : len ≤ 1000000) (hA' : Arg .i64 w a' len' cap' l') (hl' : len' ≤ 1000000) :
    Calls Try.prog 13 #[.agg #[.int .i64 s, .int .i64 g, .int .i64 k, .int .i64 v, .slice a len cap], .agg #[.int .i64 s', .int .i64 g', .int .i64 k', .int .i64 v', .slice a' len' cap']] w fun e w' => e = .returned (.bool (Nd.same ⟨s, g, k, v, l⟩ ⟨s', g', k', v', l'⟩)) ∧ Below w.heap.size w w' := by
  obtain ⟨X, hX⟩ : ∃ X, X = ((w.alloc (.cells #[.int .i64 s, .int .i64 g, .int .i64 k, .int .i64 v, .slice a len cap] 28)).alloc (.cells #[.int .i64 s', .int .i64 g', .int .i64 k', .int .i64 v', .slice a' len' cap'] 28)) := ⟨_, rfl⟩
  have hb : Below w.heap.size w X := by rw [hX]; exact ((Below.refl w.heap.size w).alloc (Nat.le_refl _) _).alloc (by simp) _
  have HI := hide (sequal_any (cap := cap) (cap' := cap') hl hl' (hA.2.2.1.below hb) (hA'.2.2.1.below hb))
  have HB := hide hb
  rw [same_parts]
  dsimp only
  generalize decide (l = l') = q at *
  by_cases he : s = s' ∧ g = g' ∧ k = k' ∧ v = v'
  · have h1 : entryB ⟨s, g, k, v, l⟩ ⟨s', g', k', v', l'⟩ = true := decide_eq_true he
    rw [h1, Bool.true_and]
    obtain ⟨rfl, rfl, rfl, rfl⟩ := he
    clear hA hA' hb h1
    go_enter Try.func13, Try.ntmps13
    go_wp2_with fail
    rw [← hX]
    refine HI.out.mono ?_
    rintro e w5 ⟨rfl, hb5⟩
    have HB5 := hide (HB.out.trans (hb5.mono HB.out.size))
    clear hb5
    go_wp2_with fail
    go_ret
    exact ⟨rfl, HB5.out⟩
  · have h1 : entryB ⟨s, g, k, v, l⟩ ⟨s', g', k', v', l'⟩ = false := decide_eq_false he
    rw [h1, Bool.false_and]
    clear hA hA' hb h1 HI
    go_enter Try.func13, Try.ntmps13
    go_wp2_with fail
    all_goals
      go_ret
      exact ⟨rfl, ((Below.refl w.heap.size w).alloc (Nat.le_refl _) _).alloc (by simp) _⟩
end Go.Proofs.Ytgckondfcmmklaa
