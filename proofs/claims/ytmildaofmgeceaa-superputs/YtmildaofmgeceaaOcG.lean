/-
  octet.Get: what it answers, for all arguments.
-/
import Derived.Test.YtmildaofmgeceaaOcQ
namespace Go.Proofs.Ytmildaofmgeceaa
set_option linter.unusedVariables false
set_option linter.unusedSimpArgs false
open Go.RowKit

set_option maxHeartbeats 400000 in
theorem get_no (a : Option Addr) (len cap : Nat) (p n : Int) (w : World) (hl : len ≤ maxLen) (h1 : (Lit.int .i64 p).wf = true) (h2 : (Lit.int .i64 n).wf = true) (hv : numB len p n = false) :
    Calls Try.prog 45 #[.slice a len cap, .int .i64 p, .int .i64 n] w fun e w' => e = .returned (.tuple #[.int .u64 0, .bool false]) ∧ w' = w := by
  have hw := numbered_any a len cap p n w hl h1 h2
  rw [hv] at hw
  have HW := hide hw
  clear hw hv
  go_enter Try.func45, Try.ntmps45
  go_wp2_with (go_at_call 51; refine (unhide HW).mono ?_; rintro e w' ⟨rfl, hw'⟩; obtain rfl := hw'.symm)
  go_ret2
  exact ⟨rfl, rfl⟩

set_option maxHeartbeats 400000 in
theorem get_yes (a : Option Addr) (len cap p n : Nat) (zs : List Int) (w : World) (hl : len ≤ maxLen) (hlc : len ≤ cap) (hr : Row .u8 w a len zs) (hz : Nums.Bytes zs) (hn : 1 ≤ n) (hn8 : n ≤ 8) (hpn : p + n ≤ len) :
    Calls Try.prog 45 #[.slice a len cap, .int .i64 p, .int .i64 n] w fun e w' => e = .returned (.tuple #[.int .u64 (Nums.rd ((zs.drop p).take n)), .bool true]) ∧ w' = w := by
  obtain ⟨b, off, rfl, hcut⟩ := hr.cut p n hpn (by omega)
  have hl' := hl
  unfold maxLen at hl'
  have hw := numbered_any (some ⟨b, off, none⟩) len cap p n w hl (wf_nat (by omega)) (wf_nat (by omega))
  rw [show numB len p n = true by simp [numB, hasB]; omega] at hw
  have HW := hide hw
  have hrd := read_any (some ⟨b, off + p, none⟩) n (cap - p) _ w (by unfold maxLen; omega) hcut (Nums.bytes_take (Nums.bytes_drop hz p) n)
  rw [List.take_of_length_le (i := 8) (by simp; omega)] at hrd
  have HR := hide hrd
  clear hw hrd hcut hr
  have hne : ¬ cap = p := by omega
  have hsum : (p : Int) + (n : Int) ≤ cap := by omega
  generalize Nums.rd ((zs.drop p).take n) = y at *
  go_enter Try.func45, Try.ntmps45
  go_wp2_with (first | (go_at_call 51; refine (unhide HW).mono ?_; rintro e w' ⟨rfl, hw'⟩; obtain rfl := hw'.symm) | (go_at_call 55; refine (unhide HR).mono ?_; rintro e w' ⟨rfl, hw'⟩; obtain rfl := hw'.symm))
  go_ret2
  exact ⟨rfl, rfl⟩
end Go.Proofs.Ytmildaofmgeceaa
