/-
  The document's Sum, crc.Fits, sums of one list and of two, and the statements' own first question ('awake').
-/
import Derived.Test.YtmildaofmgeceaaCrcD
import Derived.Lib.SlBytesConst
namespace Go.Proofs.Ytmildaofmgeceaa
set_option linter.unusedVariables false
set_option linter.unusedSimpArgs false
open Go.RowKit

theorem reg_take (x : Nat) (zs : List Int) (k : Nat) (h : k < zs.length) : Crc.steps (Crc.reg x (zs.take k) ^^^ (zs.getD k 0).toNat) 8 = Crc.reg x (zs.take (k + 1)) := by
  rw [List.take_succ_eq_append_getElem h, Crc.reg_append]
  simp [h, Crc.reg]

theorem reg_none (x : Nat) (zs : List Int) : Crc.reg x (zs.take 0) = x := rfl

theorem steps8 (x : Nat) (w : World) (h : x < 4294967296) :
    Calls Try.prog 57 #[.int .u32 x, .int .i64 8] w fun e w' => e = .returned (.int .u32 (Crc.steps x 8)) ∧ w' = w := ref_steps_any x 8 w h (by decide)

set_option maxHeartbeats 1000000 in
theorem ref_sum_any (a : Option Addr) (len cap : Nat) (zs : List Int) (w : World) (hm : len ≤ maxLen) (hr : Row .u8 w a len zs) (hz : Nums.Bytes zs) :
    Calls Try.prog 49 #[.slice a len cap] w fun e w' => e = .returned (.int .u32 (Crc.sum zs : Nat)) ∧ w' = w := by
  unfold maxLen at hm
  obtain ⟨hlen, hr⟩ := hr
  have HR := hide hr
  clear hr
  go_enter Try.func49, Try.ntmps49
  go_wp2_with fail
  go_loop [3, 4] (fun v i => ∃ k : Nat, k ≤ len ∧ i = .int .i64 k ∧ v = .int .u32 (Crc.reg 4294967295 (zs.take k) : Nat)) (fun _ i => len - (intOf i).toNat)
  case atStart => exact ⟨0, Nat.zero_le _, rfl, rfl⟩
  case round =>
    obtain ⟨k, hk, rfl, rfl⟩ := hrel
    have hlt := Crc.reg_lt (zs.take k) (x := 4294967295) (Nums.bytes_take hz k) (by decide)
    by_cases hkl : k < len
    · have hi : (k : Int) < (len : Int) := by omega
      rcases HR.out with h0 | ⟨b, off, rfl, hbw, hc⟩
      · omega
      · have hck := hc k hkl
        have HS := hide (reg_take 4294967295 zs k (by omega))
        have hzb : 0 ≤ zs.getD k 0 ∧ zs.getD k 0 ≤ 255 := by
          rw [List.getD_eq_getElem?_getD, List.getElem?_eq_getElem (by omega)]
          exact hz _ (List.getElem_mem _)
        obtain ⟨z, hzz⟩ : ∃ z : Nat, zs.getD k 0 = z := ⟨(zs.getD k 0).toNat, by omega⟩
        rw [hzz] at hck hzb
        have hS := HS.out
        rw [hzz, Int.toNat_natCast] at hS
        have HS := hide hS
        clear hc hS hzz
        generalize Crc.reg 4294967295 (zs.take k) = y at *
        have hx := u32_xor_nat y z hlt (by omega)
        have hxl := xor32 hlt (show z < 4294967296 by omega)
        generalize y ^^^ z = x at *
        go_wp2_with fail
        refine (steps8 x _ hxl).mono ?_
        rintro e w1 ⟨rfl, hw1⟩
        obtain rfl := hw1.symm
        rw [HS.out]
        go_wp2_with fail
        go_round
        case rel => exact ⟨k + 1, by omega, by go_num, rfl⟩
        case measure => simp [intOf]; omega
    · have hi : ¬ (k : Int) < (len : Int) := by omega
      obtain rfl : k = len := by omega
      rw [List.take_of_length_le (by omega)] at hlt ⊢
      have hE : (4294967295 : Int) - (Crc.reg 4294967295 zs : Nat) = (Crc.sum zs : Nat) := by unfold Crc.sum; omega
      have HE := hide hE
      clear hE
      generalize Crc.reg 4294967295 zs = y at *
      go_wp2_with fail
      go_ret
      exact ⟨congrArg (fun x => Ending.returned (Value.int .u32 x)) HE.out, rfl⟩

/-- a list alone. -/
theorem slices_one {w : World} {s : Sl} (h : s.ok w) : Slices (w.alloc (.cells #[.slice s.a s.len s.cap] 30)) (some ⟨w.heap.size, 0, none⟩) 1 [s] := by
  refine ⟨rfl, .inr ⟨_, _, rfl, by simp, fun i x hi => ?_⟩, fun x hx => ?_⟩
  · cases i with
    | zero => simp at hi; subst hi; simp
    | succ i => simp at hi
  · simp at hx
    subst hx
    exact h.below ((Below.refl _ _).alloc (Nat.le_refl _) _)

theorem flat_one (s : Sl) : flat [s] = s.zs := by simp [flat]

theorem sum_one (s : Sl) (w : World) (h : s.ok w) : Calls Try.prog 38 #[.slice (some ⟨w.heap.size, 0, none⟩) 1 1] (w.alloc (.cells #[.slice s.a s.len s.cap] 30)) fun e w' => e = .returned (.int .u32 (Crc.sum s.zs : Nat)) ∧ Below w.heap.size w w' := by
  have hs := sum_any _ 1 1 [s] _ (by decide) (slices_one h)
  rw [flat_one] at hs
  exact hs.mono fun e w' ⟨he, hb⟩ => ⟨he, ((Below.refl _ _).alloc (Nat.le_refl _) _).trans (hb.mono (by simp))⟩

/-- two lists. -/
theorem slices_two {w : World} {s t : Sl} (h : s.ok w) (h' : t.ok w) : Slices (w.alloc (.cells #[.slice s.a s.len s.cap, .slice t.a t.len t.cap] 30)) (some ⟨w.heap.size, 0, none⟩) 2 [s, t] := by
  refine ⟨rfl, .inr ⟨_, _, rfl, by simp, fun i x hi => ?_⟩, fun x hx => ?_⟩
  · match i with
    | 0 => simp at hi; subst hi; simp
    | 1 => simp at hi; subst hi; simp
    | i + 2 => simp at hi
  · simp at hx
    rcases hx with rfl | rfl
    · exact h.below ((Below.refl _ _).alloc (Nat.le_refl _) _)
    · exact h'.below ((Below.refl _ _).alloc (Nat.le_refl _) _)

theorem sum_two (s t : Sl) (w : World) (h : s.ok w) (h' : t.ok w) : Calls Try.prog 38 #[.slice (some ⟨w.heap.size, 0, none⟩) 2 2] (w.alloc (.cells #[.slice s.a s.len s.cap, .slice t.a t.len t.cap] 30)) fun e w' => e = .returned (.int .u32 (Crc.sum (s.zs ++ t.zs) : Nat)) ∧ Below w.heap.size w w' := by
  have hs := sum_any _ 2 2 [s, t] _ (by decide) (slices_two h h')
  rw [show flat [s, t] = s.zs ++ t.zs by simp [flat]] at hs
  exact hs.mono fun e w' ⟨he, hb⟩ => ⟨he, ((Below.refl _ _).alloc (Nat.le_refl _) _).trans (hb.mono (by simp))⟩

set_option maxHeartbeats 400000 in
theorem fits_any (x : Nat) (a : Option Addr) (n cap : Nat) (bs : List Sl) (w : World) (hn : n ≤ maxLen) (h : Slices w a n bs) :
    Calls Try.prog 56 #[.int .u32 x, .slice a n cap] w fun e w' => e = .returned (.bool (decide (Crc.sum (flat bs) = x))) ∧ Below w.heap.size w w' := by
  have HS := hide (sum_any a n cap bs w hn h)
  clear h hn
  generalize Crc.sum (flat bs) = y at *
  by_cases hxy : y = x
  · have hb : ((y : Int) == (x : Int)) = true := by subst hxy; simp
    go_enter Try.func56, Try.ntmps56
    go_wp2_with fail
    refine HS.out.mono ?_
    rintro e w1 ⟨rfl, hb1⟩
    have HB := hide hb1
    clear hb1
    go_wp2_with fail
    go_ret
    exact ⟨by rw [decide_eq_true hxy]; rfl, HB.out⟩
  · have hb : ((y : Int) == (x : Int)) = false := by rw [beq_eq_false_iff_ne]; omega
    go_enter Try.func56, Try.ntmps56
    go_wp2_with fail
    refine HS.out.mono ?_
    rintro e w1 ⟨rfl, hb1⟩
    have HB := hide hb1
    clear hb1
    go_wp2_with fail
    go_ret
    exact ⟨by rw [decide_eq_false hxy]; rfl, HB.out⟩

/-- the document's example. -/
theorem sum_example : Crc.sum [49, 50, 51, 52, 53, 54, 55, 56, 57] = 3808858755 := by decide +kernel

/-- a block whose mark lies behind its cells. -/
theorem row_of_marked {k : IntKind} {w : World} {g : Nat} {e : TypeId} {fr : Nat × Nat} {zs : List Int} {n : Nat} (h : w.heap[g]? = some (.cells (blk k zs) e fr)) (hn : zs.length = n) : Row k w (some ⟨g, 0, none⟩) n zs := by
  subst hn
  refine ⟨rfl, .inr ⟨g, 0, rfl, ?_, fun i hi => ?_⟩⟩
  · have := Array.getElem?_eq_some_iff.1 h
    exact this.1
  · simp [World.cell?, h, blk, hi]

end Go.Proofs.Ytmildaofmgeceaa
