/-
  octet's inner tests and Read, and the document's Has: what each answers, for all arguments.
-/
import Derived.Test.YtpphhkgkohlbbaaBase
namespace Go.Proofs.Ytpphhkgkohlbbaa
set_option linter.unusedVariables false
set_option linter.unusedSimpArgs false
open Go.RowKit

/-- are there n octets from a place on, of l? -/
def hasB (l : Nat) (p n : Int) : Bool := decide (0 ≤ p ∧ p ≤ l ∧ 0 ≤ n ∧ n ≤ l - p)
def numB (l : Nat) (p n : Int) : Bool := decide (1 ≤ n ∧ n ≤ 8) && hasB l p n

set_option maxHeartbeats 400000 in
theorem has_any (a : Option Addr) (len cap : Nat) (p n : Int) (w : World) (hl : len ≤ maxLen) (h1 : (Lit.int .i64 p).wf = true) (h2 : (Lit.int .i64 n).wf = true) :
    Calls Try.prog 15 #[.slice a len cap, .int .i64 p, .int .i64 n] w fun e w' => e = .returned (.bool (hasB len p n)) ∧ w' = w := by
  unfold maxLen at hl
  obtain ⟨hb1a, hb1b⟩ := bd_i64 h1
  obtain ⟨hb2a, hb2b⟩ := bd_i64 h2
  clear h1 h2
  by_cases c1 : 0 ≤ p
  · by_cases c2 : p ≤ len
    · by_cases c3 : 0 ≤ n
      · by_cases c4 : n ≤ len - p
        · have hv : hasB len p n = true := by simp [hasB]; omega
          rw [hv]; clear hv
          go_enter Try.func15, Try.ntmps15
          go_wp2
          go_ret
          exact ⟨rfl, rfl⟩
        · have hv : hasB len p n = false := by simp [hasB]; omega
          rw [hv]; clear hv
          go_enter Try.func15, Try.ntmps15
          go_wp2
          go_ret
          exact ⟨rfl, rfl⟩
      · have hv : hasB len p n = false := by simp [hasB]; omega
        rw [hv]; clear hv
        go_enter Try.func15, Try.ntmps15
        go_wp2
        go_ret
        exact ⟨rfl, rfl⟩
    · have hv : hasB len p n = false := by simp [hasB]; omega
      rw [hv]; clear hv
      go_enter Try.func15, Try.ntmps15
      go_wp2
      go_ret
      exact ⟨rfl, rfl⟩
  · have hv : hasB len p n = false := by simp [hasB]; omega
    rw [hv]; clear hv
    go_enter Try.func15, Try.ntmps15
    go_wp2
    go_ret
    exact ⟨rfl, rfl⟩

set_option maxHeartbeats 400000 in
theorem within_any (a : Option Addr) (len cap : Nat) (p n : Int) (w : World) (hl : len ≤ maxLen) (h1 : (Lit.int .i64 p).wf = true) (h2 : (Lit.int .i64 n).wf = true) :
    Calls Try.prog 22 #[.slice a len cap, .int .i64 p, .int .i64 n] w fun e w' => e = .returned (.bool (hasB len p n)) ∧ w' = w := by
  unfold maxLen at hl
  obtain ⟨hb1a, hb1b⟩ := bd_i64 h1
  obtain ⟨hb2a, hb2b⟩ := bd_i64 h2
  clear h1 h2
  by_cases c1 : 0 ≤ p
  · by_cases c2 : p ≤ len
    · by_cases c3 : 0 ≤ n
      · by_cases c4 : n ≤ len - p
        · have hv : hasB len p n = true := by simp [hasB]; omega
          rw [hv]; clear hv
          go_enter Try.func22, Try.ntmps22
          go_wp2
          go_ret
          exact ⟨rfl, rfl⟩
        · have hv : hasB len p n = false := by simp [hasB]; omega
          rw [hv]; clear hv
          go_enter Try.func22, Try.ntmps22
          go_wp2
          go_ret
          exact ⟨rfl, rfl⟩
      · have hv : hasB len p n = false := by simp [hasB]; omega
        rw [hv]; clear hv
        go_enter Try.func22, Try.ntmps22
        go_wp2
        go_ret
        exact ⟨rfl, rfl⟩
    · have hv : hasB len p n = false := by simp [hasB]; omega
      rw [hv]; clear hv
      go_enter Try.func22, Try.ntmps22
      go_wp2
      go_ret
      exact ⟨rfl, rfl⟩
  · have hv : hasB len p n = false := by simp [hasB]; omega
    rw [hv]; clear hv
    go_enter Try.func22, Try.ntmps22
    go_wp2
    go_ret
    exact ⟨rfl, rfl⟩

set_option maxHeartbeats 400000 in
theorem numbered_any (a : Option Addr) (len cap : Nat) (p n : Int) (w : World) (hl : len ≤ maxLen) (h1 : (Lit.int .i64 p).wf = true) (h2 : (Lit.int .i64 n).wf = true) :
    Calls Try.prog 21 #[.slice a len cap, .int .i64 p, .int .i64 n] w fun e w' => e = .returned (.bool (numB len p n)) ∧ w' = w := by
  by_cases c1 : 1 ≤ n
  · by_cases c2 : n ≤ 8
    · have hv : numB len p n = hasB len p n := by simp [numB, c1, c2]
      rw [hv]
      go_enter Try.func21, Try.ntmps21
      go_wp2_with (go_at_call 22; refine (within_any a len cap p n _ hl h1 h2).mono ?_; rintro e w' ⟨rfl, rfl⟩)
      go_ret
      exact ⟨rfl, rfl⟩
    · have hv : numB len p n = false := by simp [numB]; omega
      rw [hv]; clear hv
      go_enter Try.func21, Try.ntmps21
      go_wp2
      go_ret
      exact ⟨rfl, rfl⟩
  · have hv : numB len p n = false := by simp [numB]; omega
    rw [hv]; clear hv
    go_enter Try.func21, Try.ntmps21
    go_wp2
    go_ret
    exact ⟨rfl, rfl⟩

theorem take_snoc (zs : List Int) (k : Nat) (h : k < zs.length) : zs.take (k + 1) = zs.take k ++ [zs[k]] := by
  rw [List.take_succ_eq_append_getElem h]

theorem read_step (zs : List Int) (hz : Nums.Bytes zs) (k : Nat) (h : k < zs.length) (h8 : k < 8) :
    bits BinOp.or IntKind.u64 (Nums.rd (List.take k zs)) (IntKind.u64.wrap (IntKind.u64.wrap zs[k] * 2 ^ (8 * k))) = Nums.rd (List.take (k + 1) zs) := by
  have hb := Nums.rd_bounds _ (Nums.bytes_take hz k)
  have hl : (zs.take k).length = k := by simp; omega
  rw [hl] at hb
  have hzk := hz _ (List.getElem_mem h)
  rw [or_step _ _ k h8 hb.1 hb.2 hzk.1 hzk.2, take_snoc zs k h, Nums.rd_snoc, hl]

set_option maxHeartbeats 1000000 in
theorem read_any (a : Option Addr) (len cap : Nat) (zs : List Int) (w : World) (hl : len ≤ maxLen) (hr : Row .u8 w a len zs) (hz : Nums.Bytes zs) :
    Calls Try.prog 10 #[.slice a len cap] w fun e w' => e = .returned (.int .u64 (Nums.rd (zs.take 8))) ∧ w' = w := by
  unfold maxLen at hl
  obtain ⟨hlen, hr⟩ := hr
  go_enter Try.func10, Try.ntmps10
  go_wp2
  go_loop [3, 4] (fun v i => ∃ k : Nat, k ≤ len ∧ k ≤ 8 ∧ i = .int .i64 k ∧ v = .int .u64 (Nums.rd (zs.take k))) (fun _ i => 8 - (intOf i).toNat)
  case atStart => exact ⟨0, Nat.zero_le _, by omega, rfl, rfl⟩
  case round =>
    obtain ⟨k, hk, hk8, rfl, rfl⟩ := hrel
    by_cases hlt : k < len
    · have hi1 : (k : Int) < (len : Int) := by omega
      by_cases hlt8 : k < 8
      · rcases hr with hr | ⟨b, off, rfl, hbw, hc⟩
        · omega
        · have hck := hc k hlt
          have hi8 : (k : Int) < 8 := by omega
          have hkz : k < zs.length := by omega
          have HS := hide (read_step zs hz k hkz hlt8)
          go_wp2
          go_round
          case rel => exact ⟨k + 1, by omega, by omega, by go_num, by rw [unhide HS]⟩
          case measure => simp [intOf]; omega
      · have hi8 : ¬ (k : Int) < 8 := by omega
        obtain rfl : k = 8 := by omega
        go_wp2
        go_ret
        exact ⟨rfl, rfl⟩
    · have hi1 : ¬ (k : Int) < (len : Int) := by omega
      have HE : Hid (Nums.rd (zs.take k) = Nums.rd (zs.take 8)) := by
        show _ = _
        rw [List.take_of_length_le (by omega), List.take_of_length_le (by omega)]
      go_wp2
      go_ret
      exact ⟨by rw [← HE.out]; rfl, rfl⟩

/-- are all 0? -/
def zeroB (zs : List Int) : Bool := zs.all (· == 0)
theorem zeroB_true {zs : List Int} : zeroB zs = true ↔ ∀ z ∈ zs, z = 0 := by simp [zeroB]

theorem zeroB_snoc (l : List Int) (h : zeroB l = true) : zeroB (l ++ [0]) = true := by simp [zeroB] at h ⊢; exact h
theorem zeroB_not (l : List Int) (k : Nat) (t : List Int) (z : Int) (h : l.take (k + 1) = t ++ [z]) (hz : z ≠ 0) : zeroB l = false := by
  have hm : z ∈ l.take (k + 1) := by rw [h]; simp
  have hm' := List.mem_of_mem_take hm
  cases hq : zeroB l with
  | false => rfl
  | true => exact absurd (zeroB_true.1 hq z hm') hz

set_option maxHeartbeats 1000000 in
theorem noughts_yes (a : Option Addr) (len cap p n : Nat) (zs : List Int) (w : World) (hl : len ≤ maxLen) (hlc : len ≤ cap) (hr : Row .u8 w a len zs) (hz : Nums.Bytes zs) (hpn : p + n ≤ len) :
    Calls Try.prog 16 #[.slice a len cap, .int .i64 p, .int .i64 n] w fun e w' => e = .returned (.bool (zeroB ((zs.drop p).take n))) ∧ w' = w := by
  have hl' := hl
  unfold maxLen at hl
  obtain ⟨hlen, hr⟩ := hr
  have hv : hasB len p n = true := by simp [hasB]; omega
  have h1 : (Lit.int .i64 (p : Int)).wf = true := by simp [Lit.wf, IntKind.min, IntKind.max, IntKind.signed, IntKind.bits]; omega
  have h2 : (Lit.int .i64 (n : Int)).wf = true := by simp [Lit.wf, IntKind.min, IntKind.max, IntKind.signed, IntKind.bits]; omega
  have hw := fun w => within_any a len cap p n w hl' h1 h2
  rw [hv] at hw
  have HW := hide hw
  clear hw hv
  have hsum : (p : Int) + (n : Int) ≤ cap := by omega
  go_enter Try.func16, Try.ntmps16
  go_wp2_with (go_at_call 22; refine (unhide HW w).mono ?_; rintro e w' ⟨rfl, hw'⟩; obtain rfl := hw'.symm)
  all_goals
    clear HW
    go_loop [21] (fun i => ∃ k : Nat, k ≤ n ∧ i = .int .i64 k ∧ zeroB (((zs.drop p).take n).take k) = true) (fun i => n - (intOf i).toNat)
    case atStart => exact ⟨0, Nat.zero_le _, rfl, rfl⟩
    case round =>
      obtain ⟨k, hk, rfl, hzk⟩ := hrel
      have Hzk := hide hzk
      clear hzk
      by_cases hlt : k < n
      · first
        | (exfalso; omega)
        | (rcases hr with hr | ⟨b, off, rfl, hbw, hc⟩
           · omega
           · have hck := hc (p + k) (by omega)
             rw [← Nat.add_assoc] at hck
             have hi : (k : Int) < (n : Int) := by omega
             have HT : Hid (((zs.drop p).take n).take (k + 1) = ((zs.drop p).take n).take k ++ [zs.getD (p + k) 0]) := by
               show _ = _
               rw [take_snoc _ k (by simp; omega)]
               simp
               rw [List.getElem?_eq_getElem (by omega)]; rfl
             clear hc
             generalize zs.getD (p + k) 0 = z at *
             by_cases hz0 : z = 0
             · subst hz0
               go_wp2
               go_round
               case rel => exact ⟨k + 1, by omega, by go_num, by rw [HT.out]; exact zeroB_snoc _ Hzk.out⟩
               case measure => simp [intOf]; omega
             · have hzb : (z != 0) = true := by simpa using hz0
               have HF := hide (zeroB_not _ k _ z HT.out hz0)
               go_wp2
               go_ret
               exact ⟨by rw [HF.out]; rfl, rfl⟩)
      · have hi : ¬ (k : Int) < (n : Int) := by omega
        have HE : Hid (zeroB ((zs.drop p).take n) = true) := by
          have h := Hzk.out
          rw [List.take_of_length_le (by simp; omega)] at h
          exact h
        go_wp2
        go_ret
        exact ⟨by rw [HE.out]; rfl, rfl⟩

set_option maxHeartbeats 400000 in
theorem noughts_no (a : Option Addr) (len cap : Nat) (p n : Int) (w : World) (hl : len ≤ maxLen) (h1 : (Lit.int .i64 p).wf = true) (h2 : (Lit.int .i64 n).wf = true) (hv : hasB len p n = false) :
    Calls Try.prog 16 #[.slice a len cap, .int .i64 p, .int .i64 n] w fun e w' => e = .returned (.bool false) ∧ w' = w := by
  have hw := within_any a len cap p n w hl h1 h2
  rw [hv] at hw
  have HW := hide hw
  clear hw hv
  go_enter Try.func16, Try.ntmps16
  go_wp2_with (go_at_call 22; refine (unhide HW).mono ?_; rintro e w' ⟨rfl, hw'⟩; obtain rfl := hw'.symm)
  go_ret
  exact ⟨rfl, rfl⟩
end Go.Proofs.Ytpphhkgkohlbbaa
