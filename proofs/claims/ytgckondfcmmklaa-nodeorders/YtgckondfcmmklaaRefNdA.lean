/-
  The document's answers (layer 8): Block, Right, Put.
-/
import Derived.Test.YtgckondfcmmklaaRefBkB
import Derived.Test.YtgckondfcmmklaaNdNums
namespace Go.Proofs.Ytgckondfcmmklaa
set_option linter.unusedVariables false
set_option linter.unusedSimpArgs false
open Go.RowKit

set_option maxHeartbeats 400000 in
theorem rblock_any (k : Int) (w : World) : Calls Try.prog 21 #[.int .i64 k] w fun e w' => e = .returned (.bool (Nd.kidB k)) ∧ w' = w := by
  by_cases c1 : 2 ≤ k
  · by_cases c2 : k ≤ 3071
    · have hv : Nd.kidB k = true := decide_eq_true ⟨c1, c2⟩
      rw [hv]; clear hv
      go_enter Try.func21, Try.ntmps21
      go_wp2
      go_ret
      exact ⟨rfl, rfl⟩
    · have hv : Nd.kidB k = false := decide_eq_false (by omega)
      rw [hv]; clear hv
      go_enter Try.func21, Try.ntmps21
      go_wp2
      go_ret
      exact ⟨rfl, rfl⟩
  · have hv : Nd.kidB k = false := decide_eq_false (by omega)
    rw [hv]; clear hv
    go_enter Try.func21, Try.ntmps21
    go_wp2
    go_ret
    exact ⟨rfl, rfl⟩

set_option maxRecDepth 100000 in
set_option maxHeartbeats 1000000 in
theorem rright_yes (s g k v : Int) (l : List Int) (w : World) (a : Option Addr) (len cap : Nat) (hA : Arg .i64 w a len cap l) (hl : len ≤ 1000000) (h : Nd.headB ⟨s, g, k, v, l⟩ = true) :
    Calls Try.prog 9 #[.agg #[.int .i64 s, .int .i64 g, .int .i64 k, .int .i64 v, .slice a len cap]] w fun e w' => e = .returned (.bool (l.all Nd.kidB)) ∧ Below w.heap.size w w' := by
  have hh := of_decide_eq_true h
  obtain ⟨h1, h2, h3, h4, h5⟩ := hh
  have hzl := hA.2.2.1.1
  simp only at h1 h2 h3 h4 h5
  have hlI : (len : Int) ≤ 12 := by omega
  have HR := hide hA.2.2.1
  have HBW : Hid (Below w.heap.size w ((w.alloc (.cells #[.int .i64 s, .int .i64 g, .int .i64 k, .int .i64 v, .slice a len cap] 28)).alloc (.cells #[.int .i64 s, .int .i64 g] 23))) := ((Below.refl w.heap.size w).alloc (Nat.le_refl _) _).alloc (by simp) _
  clear h hA h5
  go_enter Try.func9, Try.ntmps9
  go_wp2_with fail
  go_loop [4, 5] (fun ok i => ∃ j : Nat, j ≤ len ∧ i = .int .i64 j ∧ ok = .bool ((l.take j).all Nd.kidB)) (fun _ i => len - (intOf i).toNat)
  case atStart => exact ⟨0, Nat.zero_le _, rfl, rfl⟩
  case round =>
    obtain ⟨j, hj, rfl, rfl⟩ := hrel
    by_cases hlt : j < len
    · have hjI : (j : Int) < (len : Int) := by omega
      have HT : Hid ((l.take (j + 1)).all Nd.kidB = ((l.take j).all Nd.kidB && Nd.kidB (l.getD j 0))) := by
        show _ = _
        rw [List.take_succ_eq_append_getElem (by omega), List.all_append, List.getD_eq_getElem?_getD, List.getElem?_eq_getElem (by omega)]
        simp
      have HF : Hid ((l.take j).all Nd.kidB = false → l.all Nd.kidB = false) := fun e => by
        rw [← List.take_append_drop j l, List.all_append, e]
        rfl
      obtain ⟨hL, h0 | ⟨b, off, rfl, hbw, hc⟩⟩ := HR.out.below (((Below.refl w.heap.size w).alloc (Nat.le_refl _) (.cells #[.int .i64 s, .int .i64 g, .int .i64 k, .int .i64 v, .slice a len cap] 28)).alloc (by simp) (.cells #[.int .i64 s, .int .i64 g] 23))
      · omega
      have hck := hc j hlt
      clear hc hbw
      generalize l.getD j 0 = z at *
      generalize (l.take j).all Nd.kidB = q at *
      cases q with
      | true =>
        go_wp2_with (go_at_call 21; refine (rblock_any z _).mono ?_; rintro e w' ⟨rfl, hw'⟩; obtain rfl := hw'.symm)
        go_round
        case rel => exact ⟨j + 1, by omega, by go_num, by rw [HT.out]; rfl⟩
        case measure => simp [intOf]; omega
      | false =>
        have HFF := hide (HF.out rfl)
        clear HF HT
        go_wp2_with fail
        go_ret
        exact ⟨by rw [HFF.out]; rfl, HBW.out⟩
    · have hjI : ¬ (j : Int) < (len : Int) := by omega
      have HE : Hid ((l.take j).all Nd.kidB = l.all Nd.kidB) := by
        show _ = _
        rw [List.take_of_length_le (by omega)]
      go_wp2_with fail
      go_ret
      exact ⟨by rw [HE.out]; rfl, HBW.out⟩

theorem right_eq (n : Nd.N) : Nd.right n = (Nd.headB n && n.kids.all Nd.kidB) := rfl
set_option maxRecDepth 100000 in
set_option maxHeartbeats 1000000 in
theorem rright_any (s g k v : Int) (l : List Int) (w : World) (a : Option Addr) (len cap : Nat) (hA : Arg .i64 w a len cap l) (hl : len ≤ 1000000) :
    Calls Try.prog 9 #[.agg #[.int .i64 s, .int .i64 g, .int .i64 k, .int .i64 v, .slice a len cap]] w fun e w' => e = .returned (.bool (Nd.right ⟨s, g, k, v, l⟩)) ∧ Below w.heap.size w w' := by
  by_cases h : Nd.headB ⟨s, g, k, v, l⟩ = true
  · have hy := rright_yes s g k v l w a len cap hA hl h
    rw [right_eq, h, Bool.true_and]
    exact hy
  · have hf : Nd.headB ⟨s, g, k, v, l⟩ = false := by simpa using h
    rw [right_eq, hf, Bool.false_and]
    have hzl := hA.2.2.1.1
    have hn : ¬ (0 ≤ s ∧ s ≤ 1791 ∧ 1 ≤ g ∧ g ≤ 4294967295 ∧ (len : Int) ≤ 12) := fun e => h (decide_eq_true ⟨e.1, e.2.1, e.2.2.1, e.2.2.2.1, by have := e.2.2.2.2; simp only; omega⟩)
    have HBW : Hid (Below w.heap.size w ((w.alloc (.cells #[.int .i64 s, .int .i64 g, .int .i64 k, .int .i64 v, .slice a len cap] 28)).alloc (.cells #[.int .i64 s, .int .i64 g] 23))) := ((Below.refl w.heap.size w).alloc (Nat.le_refl _) _).alloc (by simp) _
    clear hA h hf
    rcases Nat.eq_zero_or_pos len with h0 | h0
    · subst h0
      by_cases c0 : 0 ≤ s
      rotate_left
      · clear hn
        go_enter Try.func9, Try.ntmps9
        go_wp2_with fail
        go_loop [4, 5] (fun ok i => ok = .bool false ∧ i = .int .i64 0) (fun _ _ => 0)
        case atStart => exact ⟨rfl, rfl⟩
        case round =>
          obtain ⟨rfl, rfl⟩ := hrel
          go_wp2_with fail
          go_ret
          exact ⟨rfl, HBW.out⟩
      by_cases c1 : s ≤ 1791
      rotate_left
      · clear hn
        go_enter Try.func9, Try.ntmps9
        go_wp2_with fail
        go_loop [4, 5] (fun ok i => ok = .bool false ∧ i = .int .i64 0) (fun _ _ => 0)
        case atStart => exact ⟨rfl, rfl⟩
        case round =>
          obtain ⟨rfl, rfl⟩ := hrel
          go_wp2_with fail
          go_ret
          exact ⟨rfl, HBW.out⟩
      by_cases c2 : 1 ≤ g
      rotate_left
      · clear hn
        go_enter Try.func9, Try.ntmps9
        go_wp2_with fail
        go_loop [4, 5] (fun ok i => ok = .bool false ∧ i = .int .i64 0) (fun _ _ => 0)
        case atStart => exact ⟨rfl, rfl⟩
        case round =>
          obtain ⟨rfl, rfl⟩ := hrel
          go_wp2_with fail
          go_ret
          exact ⟨rfl, HBW.out⟩
      by_cases c3 : g ≤ 4294967295
      rotate_left
      · clear hn
        go_enter Try.func9, Try.ntmps9
        go_wp2_with fail
        go_loop [4, 5] (fun ok i => ok = .bool false ∧ i = .int .i64 0) (fun _ _ => 0)
        case atStart => exact ⟨rfl, rfl⟩
        case round =>
          obtain ⟨rfl, rfl⟩ := hrel
          go_wp2_with fail
          go_ret
          exact ⟨rfl, HBW.out⟩
      exact absurd ⟨c0, c1, c2, c3, by decide⟩ hn
    · have hp : (0 : Int) < (len : Int) := by omega
      by_cases c0 : 0 ≤ s
      rotate_left
      · clear hn
        go_enter Try.func9, Try.ntmps9
        go_wp2_with fail
        go_loop [4, 5] (fun ok i => ok = .bool false ∧ i = .int .i64 0) (fun _ _ => 0)
        case atStart => exact ⟨rfl, rfl⟩
        case round =>
          obtain ⟨rfl, rfl⟩ := hrel
          go_wp2_with fail
          go_ret
          exact ⟨rfl, HBW.out⟩
      by_cases c1 : s ≤ 1791
      rotate_left
      · clear hn
        go_enter Try.func9, Try.ntmps9
        go_wp2_with fail
        go_loop [4, 5] (fun ok i => ok = .bool false ∧ i = .int .i64 0) (fun _ _ => 0)
        case atStart => exact ⟨rfl, rfl⟩
        case round =>
          obtain ⟨rfl, rfl⟩ := hrel
          go_wp2_with fail
          go_ret
          exact ⟨rfl, HBW.out⟩
      by_cases c2 : 1 ≤ g
      rotate_left
      · clear hn
        go_enter Try.func9, Try.ntmps9
        go_wp2_with fail
        go_loop [4, 5] (fun ok i => ok = .bool false ∧ i = .int .i64 0) (fun _ _ => 0)
        case atStart => exact ⟨rfl, rfl⟩
        case round =>
          obtain ⟨rfl, rfl⟩ := hrel
          go_wp2_with fail
          go_ret
          exact ⟨rfl, HBW.out⟩
      by_cases c3 : g ≤ 4294967295
      rotate_left
      · clear hn
        go_enter Try.func9, Try.ntmps9
        go_wp2_with fail
        go_loop [4, 5] (fun ok i => ok = .bool false ∧ i = .int .i64 0) (fun _ _ => 0)
        case atStart => exact ⟨rfl, rfl⟩
        case round =>
          obtain ⟨rfl, rfl⟩ := hrel
          go_wp2_with fail
          go_ret
          exact ⟨rfl, HBW.out⟩
      have c4 : ¬ (len : Int) ≤ 12 := fun e => hn ⟨c0, c1, c2, c3, e⟩
      clear hn
      go_enter Try.func9, Try.ntmps9
      go_wp2_with fail
      go_loop [4, 5] (fun ok i => ok = .bool false ∧ i = .int .i64 0) (fun _ _ => 0)
      case atStart => exact ⟨rfl, rfl⟩
      case round =>
        obtain ⟨rfl, rfl⟩ := hrel
        go_wp2_with fail
        go_ret
        exact ⟨rfl, HBW.out⟩
end Go.Proofs.Ytgckondfcmmklaa
