/-
  octet.Noughts: what it answers, where a seat bears only some of octet's functions.
-/
import Derived.Test.YtmildaofmgeceaaOcQ
namespace Go.Proofs.Ytmildaofmgeceaa
set_option linter.unusedVariables false
set_option linter.unusedSimpArgs false
open Go.RowKit

/-- are all 0? -/
def zeroB (zs : List Int) : Bool := zs.all (· == 0)
theorem zeroB_true {zs : List Int} : zeroB zs = true ↔ ∀ z ∈ zs, z = 0 := by simp [zeroB]

theorem zeroB_snoc (l : List Int) (h : zeroB l = true) : zeroB (l ++ [0]) = true := by simp [zeroB] at h ⊢; exact h
theorem zeroB_not (l : List Int) (k : Nat) (t : List Int) (z : Int) (h : l.take (k + 1) = t ++ [z]) (hz : z ≠ 0) : zeroB l = false := by
  have hm : z ∈ l.take (k + 1) := by rw [h]; simp
  have hm' := List.mem_of_mem_take hm
  cases hq : zeroB l with
  | false => rfl
  | true => exact absurd (zeroB_true.1 hq z hm') hz

set_option maxHeartbeats 1000000 in
theorem noughts_yes (a : Option Addr) (len cap p n : Nat) (zs : List Int) (w : World) (hl : len ≤ maxLen) (hlc : len ≤ cap) (hr : Row .u8 w a len zs) (hz : Nums.Bytes zs) (hpn : p + n ≤ len) :
    Calls Try.prog 31 #[.slice a len cap, .int .i64 p, .int .i64 n] w fun e w' => e = .returned (.bool (zeroB ((zs.drop p).take n))) ∧ w' = w := by
  have hl' := hl
  unfold maxLen at hl
  obtain ⟨hlen, hr⟩ := hr
  have hv : hasB len p n = true := by simp [hasB]; omega
  have h1 : (Lit.int .i64 (p : Int)).wf = true := by simp [Lit.wf, IntKind.min, IntKind.max, IntKind.signed, IntKind.bits]; omega
  have h2 : (Lit.int .i64 (n : Int)).wf = true := by simp [Lit.wf, IntKind.min, IntKind.max, IntKind.signed, IntKind.bits]; omega
  have hw := fun w => within_any a len cap p n w hl' h1 h2
  rw [hv] at hw
  have HW := hide hw
  clear hw hv
  have hsum : (p : Int) + (n : Int) ≤ cap := by omega
  go_enter Try.func31, Try.ntmps31
  go_wp2_with (go_at_call 46; refine (unhide HW w).mono ?_; rintro e w' ⟨rfl, hw'⟩; obtain rfl := hw'.symm)
  all_goals
    clear HW
    go_loop [21] (fun i => ∃ k : Nat, k ≤ n ∧ i = .int .i64 k ∧ zeroB (((zs.drop p).take n).take k) = true) (fun i => n - (intOf i).toNat)
    case atStart => exact ⟨0, Nat.zero_le _, rfl, rfl⟩
    case round =>
      obtain ⟨k, hk, rfl, hzk⟩ := hrel
      have Hzk := hide hzk
      clear hzk
      by_cases hlt : k < n
      · first
        | (exfalso; omega)
        | (rcases hr with hr | ⟨b, off, rfl, hbw, hc⟩
           · omega
           · have hck := hc (p + k) (by omega)
             rw [← Nat.add_assoc] at hck
             have hi : (k : Int) < (n : Int) := by omega
             have HT : Hid (((zs.drop p).take n).take (k + 1) = ((zs.drop p).take n).take k ++ [zs.getD (p + k) 0]) := by
               show _ = _
               rw [take_snoc _ k (by simp; omega)]
               simp
               rw [List.getElem?_eq_getElem (by omega)]; rfl
             clear hc
             generalize zs.getD (p + k) 0 = z at *
             by_cases hz0 : z = 0
             · subst hz0
               go_wp2
               go_round
               case rel => exact ⟨k + 1, by omega, by go_num, by rw [HT.out]; exact zeroB_snoc _ Hzk.out⟩
               case measure => simp [intOf]; omega
             · have hzb : (z != 0) = true := by simpa using hz0
               have HF := hide (zeroB_not _ k _ z HT.out hz0)
               go_wp2
               go_ret
               exact ⟨by rw [HF.out]; rfl, rfl⟩)
      · have hi : ¬ (k : Int) < (n : Int) := by omega
        have HE : Hid (zeroB ((zs.drop p).take n) = true) := by
          have h := Hzk.out
          rw [List.take_of_length_le (by simp; omega)] at h
          exact h
        go_wp2
        go_ret
        exact ⟨by rw [HE.out]; rfl, rfl⟩

set_option maxHeartbeats 400000 in
theorem noughts_no (a : Option Addr) (len cap : Nat) (p n : Int) (w : World) (hl : len ≤ maxLen) (h1 : (Lit.int .i64 p).wf = true) (h2 : (Lit.int .i64 n).wf = true) (hv : hasB len p n = false) :
    Calls Try.prog 31 #[.slice a len cap, .int .i64 p, .int .i64 n] w fun e w' => e = .returned (.bool false) ∧ w' = w := by
  have hw := within_any a len cap p n w hl h1 h2
  rw [hv] at hw
  have HW := hide hw
  clear hw hv
  go_enter Try.func31, Try.ntmps31
  go_wp2_with (go_at_call 46; refine (unhide HW).mono ?_; rintro e w' ⟨rfl, hw'⟩; obtain rfl := hw'.symm)
  go_ret
  exact ⟨rfl, rfl⟩
end Go.Proofs.Ytmildaofmgeceaa
