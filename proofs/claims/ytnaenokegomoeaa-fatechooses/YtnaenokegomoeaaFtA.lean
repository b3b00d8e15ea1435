/-
  slices.Index, slices.Contains, slices.Equal over numbers; fate.choice.
-/
import Derived.Test.YtnaenokegomoeaaGround
import Derived.Test.YtnaenokegomoeaaPmPlain
namespace Go.Proofs.Ytnaenokegomoeaa
set_option linter.unusedVariables false
set_option linter.unusedSimpArgs false
open Go.RowKit

theorem mem_take_succ {L : List Int} {k : Nat} {v : Int} (h : k < L.length) : v ∈ L.take (k + 1) ↔ v ∈ L.take k ∨ v = L.getD k 0 := by
  have e : L.take (k + 1) = L.take k ++ [L.getD k 0] := by
    rw [List.take_add_one, List.getD_eq_getElem?_getD, List.getElem?_eq_getElem h]
    rfl
  rw [e, List.mem_append, List.mem_singleton]

set_option maxHeartbeats 1000000 in
theorem index_any (a : Option Addr) (len cap : Nat) (L : List Int) (v : Int) (w : World) (hl : len ≤ 1000000) (hr : Row .u64 w a len L) :
    Calls Try.prog 68 #[.slice a len cap, .int .u64 v] w fun e w' => (∃ k : Int, e = .returned (.int .i64 k) ∧ (0 ≤ k ↔ v ∈ L) ∧ -1 ≤ k ∧ k ≤ 1000000) ∧ w' = w := by
  have HR := hide hr
  clear hr
  go_enter Try.func68, Try.ntmps68
  go_wp2_with fail
  go_loopw [8] (fun i wr => ∃ k : Nat, k ≤ len ∧ i = .int .i64 k ∧ wr = w ∧ ¬ v ∈ L.take k) (fun i _ => len - (intOf i).toNat)
  case atStart => exact ⟨0, Nat.zero_le _, rfl, rfl, by simp⟩
  case round =>
    obtain ⟨k, hk, rfl, rfl, hno⟩ := hrel
    have HNO := hide hno
    clear hno
    by_cases hlt : k < len
    · have hkn : (k : Int) < (len : Int) := by omega
      obtain ⟨hL, h0 | ⟨b, off, rfl, hbw, hc⟩⟩ := HR.out
      · omega
      have hck := hc k hlt
      have HM := hide (mem_take_succ (v := v) (show k < L.length by omega))
      have HT : Hid (L.getD k 0 = v → v ∈ L) := fun e => by
        rw [← e, List.getD_eq_getElem?_getD, List.getElem?_eq_getElem (by omega)]
        exact List.getElem_mem _
      clear hc hL
      generalize L.getD k 0 = z at *
      by_cases hz : v = z
      · have hT := hide (HT.out hz.symm)
        subst hz
        go_wp2_with fail
        go_ret
        exact ⟨⟨k, rfl, ⟨fun _ => hT.out, fun _ => by omega⟩, by omega, by omega⟩, rfl⟩
      · go_wp2_with fail
        go_roundw
        case rel => exact ⟨k + 1, by omega, by go_num, trivial, fun h => by rcases HM.out.1 h with q | q; exact HNO.out q; exact hz q⟩
        case measure => simp [intOf]; omega
    · have hkn : ¬ (k : Int) < (len : Int) := by omega
      obtain rfl : k = len := by omega
      have HN : Hid (¬ v ∈ L) := by
        have e : L.take k = L := List.take_of_length_le (by rw [HR.out.1]; exact Nat.le_refl _)
        have := HNO.out
        rw [e] at this
        exact this
      go_wp2_with fail
      go_ret
      exact ⟨⟨-1, rfl, ⟨fun h => absurd h (by decide), fun h => absurd h HN.out⟩, by decide, by decide⟩, rfl⟩

theorem contains_any (a : Option Addr) (len cap : Nat) (L : List Int) (v : Int) (w : World) (hl : len ≤ 1000000) (hr : Row .u64 w a len L) :
    Calls Try.prog 48 #[.slice a len cap, .int .u64 v] w fun e w' => e = .returned (.bool (decide (v ∈ L))) ∧ w' = w := by
  have HI := hide (index_any a len cap L v w hl hr)
  clear hr
  go_enter Try.func48, Try.ntmps48
  go_wp2_with fail
  refine HI.out.mono ?_
  rintro e w1 ⟨⟨k, rfl, hk, hk0, hk1⟩, hw⟩
  obtain rfl := hw.symm
  have HD : Hid (decide (v ∈ L) = decide (0 ≤ k)) := by
    show _ = _
    exact decide_eq_decide.2 hk.symm
  clear hk
  go_wp2_with fail
  go_ret
  exact ⟨by rw [HD.out]; rfl, rfl⟩

set_option maxHeartbeats 1000000 in
theorem equal_any (a c : Option Addr) (n cap cap' : Nat) (L M : List Int) (w : World) (hl : n ≤ 1000000) (ha : Row .u64 w a n L) (hc : Row .u64 w c n M) :
    Calls Try.prog 38 #[.slice a n cap, .slice c n cap'] w fun e w' => e = .returned (.bool (decide (L = M))) ∧ Below w.heap.size w w' := by
  have HA := hide ha
  have HC := hide hc
  clear ha hc
  go_enter Try.func38, Try.ntmps38
  go_wp2_with fail
  go_loopw [13] (fun i wr => ∃ k : Nat, k ≤ n ∧ i = .int .i64 k ∧ Below w.heap.size w wr ∧ L.take k = M.take k) (fun i _ => n - (intOf i).toNat)
  case atStart => exact ⟨0, Nat.zero_le _, rfl, Below.refl _ _, rfl⟩
  case round =>
    obtain ⟨k, hk, rfl, hb, he⟩ := hrel
    have HE := hide he
    have HB := hide hb
    clear he
    by_cases hlt : k < n
    · have hkn : (k : Int) < (n : Int) := by omega
      obtain ⟨hL, h0 | ⟨b, off, rfl, hbw, hca⟩⟩ := HA.out.below hb
      · omega
      obtain ⟨hM, h0 | ⟨b', off', rfl, hbw', hcb⟩⟩ := HC.out.below hb
      · omega
      have ka := hca k hlt
      have kb := hcb k hlt
      have HT : Hid (L.take (k + 1) = M.take (k + 1) ↔ L.getD k 0 = M.getD k 0) := by
        show _ ↔ _
        have e : ∀ N : List Int, k < N.length → N.take (k + 1) = N.take k ++ [N.getD k 0] := fun N h => by
          rw [List.take_add_one, List.getD_eq_getElem?_getD, List.getElem?_eq_getElem h]
          rfl
        rw [e L (by omega), e M (by omega), HE.out]
        simp
      have HF : Hid (¬ L.getD k 0 = M.getD k 0 → ¬ L = M) := fun h e => h (by rw [e])
      clear hca hcb hL hM hb
      generalize L.getD k 0 = x at *
      generalize M.getD k 0 = y at *
      by_cases hxy : x = y
      · have HN := hide (HT.out.2 hxy)
        subst hxy
        go_wp2_with fail
        go_region
        go_wp2_with fail
        go_roundw
        case rel => exact ⟨k + 1, by omega, by go_num, HB.out.drew, HN.out⟩
        case measure => simp [intOf]; omega
      · have HN : Hid (decide (L = M) = false) := decide_eq_false (HF.out hxy)
        go_wp2_with fail
        go_region
        go_wp2_with fail
        go_ret
        exact ⟨by rw [HN.out]; rfl, HB.out.drew⟩
    · have hkn : ¬ (k : Int) < (n : Int) := by omega
      obtain rfl : k = n := by omega
      have HN : Hid (decide (L = M) = true) := by
        have e1 : L.take k = L := List.take_of_length_le (by rw [HA.out.1]; exact Nat.le_refl _)
        have e2 : M.take k = M := List.take_of_length_le (by rw [HC.out.1]; exact Nat.le_refl _)
        have := HE.out
        rw [e1, e2] at this
        exact decide_eq_true this
      go_wp2_with fail
      go_ret
      exact ⟨by rw [HN.out]; rfl, HB.out⟩

set_option maxHeartbeats 1000000 in
theorem choice_any (f : Pm.F) (v : Int) (w : World) :
    Calls Try.prog 37 #[.agg #[.int .i64 f.at', .int .u64 f.lasts, .bool f.flushed, .int .u64 f.sent, .int .u64 f.stored], .int .u64 v] w fun e w' => e = .returned (.tuple #[.int .i64 (f.least v % 3 : Nat), .bool (decide (f.least v < 3))]) ∧ Below w.heap.size w w' := by
  have hb := (Below.refl w.heap.size w).alloc (Nat.le_refl _) (.cells #[.int .i64 f.at', .int .u64 f.lasts, .bool f.flushed, .int .u64 f.sent, .int .u64 f.stored] 24)
  have HB := hide hb
  clear hb
  obtain ⟨fa, fl, ff, fs, ft⟩ := f
  simp only at HB ⊢
  have hc : (v = fl ∧ Pm.F.least ⟨fa, fl, ff, fs, ft⟩ v = 0) ∨ (¬ v = fl ∧ ff = true ∧ v = fs ∧ Pm.F.least ⟨fa, fl, ff, fs, ft⟩ v = 1) ∨ (¬ v = fl ∧ ff = true ∧ ¬ v = fs ∧ v = ft ∧ Pm.F.least ⟨fa, fl, ff, fs, ft⟩ v = 2) ∨ (¬ v = fl ∧ ff = false ∧ v = ft ∧ Pm.F.least ⟨fa, fl, ff, fs, ft⟩ v = 2) ∨ (¬ v = fl ∧ ff = true ∧ ¬ v = fs ∧ ¬ v = ft ∧ Pm.F.least ⟨fa, fl, ff, fs, ft⟩ v = 3) ∨ (¬ v = fl ∧ ff = false ∧ ¬ v = ft ∧ Pm.F.least ⟨fa, fl, ff, fs, ft⟩ v = 3) := by
    unfold Pm.F.least
    cases ff <;> by_cases h1 : v = fl <;> by_cases h2 : v = fs <;> by_cases h3 : v = ft <;> simp_all
  generalize Pm.F.least ⟨fa, fl, ff, fs, ft⟩ v = m at *
  rcases hc with ⟨h1, rfl⟩ | ⟨h1, rfl, h2, rfl⟩ | ⟨h1, rfl, h2, h3, rfl⟩ | ⟨h1, rfl, h3, rfl⟩ | ⟨h1, rfl, h2, h3, rfl⟩ | ⟨h1, rfl, h3, rfl⟩
  all_goals
    go_enter Try.func37, Try.ntmps37
    go_wp2_with fail
    go_ret2
    exact ⟨rfl, HB.out⟩
end Go.Proofs.Ytnaenokegomoeaa
