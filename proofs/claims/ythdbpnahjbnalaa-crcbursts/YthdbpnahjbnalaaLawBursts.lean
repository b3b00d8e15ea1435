/-
  CrcBursts' walk.
-/
import Derived.Test.YthdbpnahjbnalaaLawLinear
import Derived.Test.YthdbpnahjbnalaaBurstNums
import Derived.Test.YthdbpnahjbnalaaClone
import Derived.Test.YthdbpnahjbnalaaRest
namespace Go.Proofs.Ythdbpnahjbnalaa
set_option linter.unusedVariables false
set_option linter.unusedSimpArgs false
open Go.RowKit

set_option maxHeartbeats 400000 in
theorem bursts_walk_out (a : Option Addr) (len cap : Nat) (at' wi : Int) (w : World) (hm : len ≤ maxLen) (h : 300 < len ∨ len < 4 ∨ wi = 0) :
    Calls Try.prog 8 #[.slice a len cap, .int .i64 at', .int .u32 wi] w fun e w' => e = .returned (.bool true) ∧ Below w.heap.size w w' := by
  unfold maxLen at hm
  have hl' : (300 : Int) < (len : Int) ∨ (¬ (300 : Int) < (len : Int) ∧ (len : Int) < 4) ∨ (¬ (300 : Int) < (len : Int) ∧ ¬ (len : Int) < 4 ∧ (wi == 0) = true) := by
    rcases h with h | h | h
    · exact .inl (by omega)
    · exact .inr (.inl (by omega))
    · subst h
      by_cases h1 : (300 : Int) < (len : Int)
      · exact .inl h1
      · by_cases h2 : (len : Int) < 4
        · exact .inr (.inl ⟨h1, h2⟩)
        · exact .inr (.inr ⟨h1, h2, rfl⟩)
  clear h
  rcases hl' with h1 | ⟨h1, h2⟩ | ⟨h1, h2, h3⟩
  all_goals
    go_enter Try.func8, Try.ntmps8
    go_wp2_with fail
    refine (awake_any _).mono ?_
    rintro e w1 ⟨rfl, hb1⟩
    have HB1 := hide hb1
    clear hb1
    go_wp2_with fail
    refine (awake_any w1).mono ?_
    rintro e w2 ⟨rfl, hb2⟩
    have HB2 := hide (HB1.out.trans (hb2.mono HB1.out.size))
    clear hb2
    go_wp2_with fail
    go_ret
    exact ⟨rfl, HB2.out⟩

theorem bit_and (wi i : Nat) (h : wi < 4294967296) : bits .and .u32 ((wi : Int) / 2 ^ i) 1 = ((wi / 2 ^ i % 2 : Nat) : Int) := by
  have e : (wi : Int) / 2 ^ i = ((wi / 2 ^ i : Nat) : Int) := by rw [Int.natCast_ediv, Int.natCast_pow]; rfl
  have hd : wi / 2 ^ i < 4294967296 := Nat.lt_of_le_of_lt (Nat.div_le_self _ _) h
  rw [e, show (1 : Int) = ((1 : Nat) : Int) from rfl, u32_and_nat _ _ hd (by decide), Nat.and_one_is_mod]

set_option maxHeartbeats 4000000 in
theorem bursts_walk_in (a : Option Addr) (len cap : Nat) (zs : List Int) (at' : Int) (wi : Nat) (w : World) (hA : Arg .u8 w a len cap zs) (hat : (Lit.int .i64 at').wf = true) (hwi : wi < 4294967296) (hl : len ≤ 300) (hl4 : 4 ≤ len) (hw0 : wi ≠ 0) :
    Calls Try.prog 8 #[.slice a len cap, .int .i64 at', .int .u32 wi] w fun e w' => e = .returned (.bool true) ∧ Below w.heap.size w w' := by
  have h1 : ¬ (300 : Int) < (len : Int) := by omega
  have h2 : ¬ (len : Int) < 4 := by omega
  have h3 : ((wi : Int) == 0) = false := by rw [beq_eq_false_iff_ne]; omega
  obtain ⟨k, hk, hR⟩ := rest_nat at' (8 * len - 31) w (by omega) (by omega) hat
  have e8 : (8 : Int) * (len : Int) - 31 = ((8 * len - 31 : Nat) : Int) := by omega
  rw [← e8] at hR
  have HR := hide hR
  have HA := hide hA
  clear hR hA hat e8
  go_enter Try.func8, Try.ntmps8
  go_wp2_with fail
  refine (awake_any _).mono ?_
  rintro e w1 ⟨rfl, hb1⟩
  have HB1 := hide hb1
  clear hb1
  go_wp2_with fail
  refine (HR.out w1).mono ?_
  rintro e w2 ⟨rfl, hw2⟩
  obtain rfl := hw2.symm
  clear HR
  go_wp2_with (refine wpList_clone_own rfl _ _ rfl w1.heap.size rfl (heap_alloc_new w1 _) w1.heap.size w1 ((Below.refl _ _).alloc (Nat.le_refl _) _) (Nat.le_refl _) a len cap zs rfl ((HA.out.below HB1.out).below ((Below.refl _ _).alloc (Nat.le_refl _) _)) (by omega) ?_)
  intro g cap' tail w3 hb3 hBg hg3 hle hmx
  have HB3 := hide hb3
  have HG3 := hide hg3
  have HBg := hide hBg
  unfold maxLen at hmx
  clear hb3 hg3 hBg
  go_wp2_with fail
  go_loopw [9] (fun v wr => ∃ i : Nat, i ≤ 32 ∧ v = .int .i64 i ∧ wr.heap[g]? = some (.cells ((Crc.xb zs (2 ^ k * (wi % 2 ^ i))).map (Value.int .u8) ++ tail).toArray 5 (0, 0)) ∧ Below w1.heap.size w1 wr) (fun v _ => 32 - (intOf v).toNat)
  case atStart => exact ⟨0, Nat.zero_le _, rfl, by rw [HG3.out, Nat.pow_zero, Nat.mod_one, Nat.mul_zero, Crc.xb_zero zs HA.out.bytes], HB3.out⟩
  case round =>
    obtain ⟨i, hi32, rfl, hg, hbr⟩ := hrel
    have HG := hide hg
    have HBr := hide hbr
    clear hg hbr
    by_cases hlt : i < 32
    · have hi : (i : Int) < 32 := by omega
      have hand := bit_and wi i hwi
      by_cases hbit : wi / 2 ^ i % 2 = 1
      · have hcond : (bits BinOp.and IntKind.u32 ((wi : Int) / 2 ^ i) 1 == 1) = true := by rw [hand, hbit]; rfl
        have HLow := hide (Crc.low_on k wi i hbit)
        clear hand hbit
        have hzl := HA.out.2.2.1.1
        generalize hv : 2 ^ k * (wi % 2 ^ i) = v at *
        have HX := hide (Crc.xb_bit zs v (k + i) (by omega))
        rw [← HLow.out] at HX
        clear hv HLow
        have hLl := Crc.xb_length zs v
        have hLb := Crc.xb_bytes zs v HA.out.bytes
        generalize Crc.xb zs v = L at *
        have hm : (k : Int) + (i : Int) = ((k + i : Nat) : Int) := by omega
        have hm1 : k + i < 8 * len := by omega
        generalize k + i = m at *
        have hw1 : IntKind.i64.wrap ((k : Int) + (i : Int)) = (m : Int) := by rw [hm, IntKind.wrap_i64]; omega
        have hw2 : (m : Int).tdiv 8 = ((m / 8 : Nat) : Int) := by rw [Int.tdiv_eq_ediv_of_nonneg (by omega)]; omega
        have hw4 : (m : Int) / 8 = ((m / 8 : Nat) : Int) := by omega
        have hw5 : IntKind.i64.wrap ((m / 8 : Nat) : Int) = ((m / 8 : Nat) : Int) := by rw [IntKind.wrap_i64]; omega
        have hw3 : (m : Int).tmod 8 = ((m % 8 : Nat) : Int) := by rw [Int.tmod_eq_emod_of_nonneg (by omega)]; omega
        have hw6 : (m : Int) % 8 = ((m % 8 : Nat) : Int) := by omega
        clear hm
        have hq1 : m / 8 < len := by omega
        have hr1 : m % 8 < 8 := by omega
        generalize m / 8 = q at *
        generalize m % 8 = r at *
        have hb := getD_byte hLb q
        obtain ⟨z, hz⟩ : ∃ z : Nat, L.getD q 0 = z := ⟨(L.getD q 0).toNat, by omega⟩
        rw [hz] at hb
        have HX' := HX.out
        rw [hz, Int.toNat_natCast] at HX'
        have HX := hide HX'
        clear HX'
        have hget : (L.map (Value.int .u8) ++ tail).toArray[q]? = some (.int .u8 z) := by
          rw [List.getElem?_toArray, List.getElem?_append_left (by simp; omega), List.getElem?_map, List.getElem?_eq_getElem (by omega)]
          rw [List.getD_eq_getElem?_getD, List.getElem?_eq_getElem (by omega)] at hz
          simp at hz ⊢
          exact hz
        have hcell : wr.cell? ⟨g, q, none⟩ = some (.int .u8 z) := by simp only [World.cell?, HG.out]; exact hget
        have hfz : wr.frozen? ⟨g, q, none⟩ = false := by simp [World.frozen?, HG.out]
        have h2r : 2 ^ r < 2 ^ 8 := Nat.pow_lt_pow_right (by decide) hr1
        have e2r : ((2 ^ r : Nat) : Int) = (2 : Int) ^ r := by rw [Int.natCast_pow]; rfl
        have hx := u8_xor_nat z (2 ^ r) (by omega) h2r
        have hw7 : IntKind.u8.wrap ((2 : Int) ^ r) = (2 : Int) ^ r := by
          rw [← e2r, IntKind.wrap_u8]
          exact Int.emod_eq_of_lt (Int.natCast_nonneg _) (Int.ofNat_lt.2 h2r)
        rw [e2r] at hx
        have hxl : z ^^^ 2 ^ r < 2 ^ 8 := Nat.xor_lt_two_pow (by omega) h2r
        generalize z ^^^ 2 ^ r = z' at *
        clear hget hz h2r e2r
        have hql : (q : Int) < (len : Int) := by omega
        go_wp2_with fail
        go_region_with (fail)
        have HW : Hid ((wr.setCell ⟨g, q, none⟩ (.int .u8 z')).drew.heap[g]? = some (.cells ((Crc.xb zs (2 ^ k * (wi % 2 ^ (i + 1)))).map (Value.int .u8) ++ tail).toArray 5 (0, 0))) := by
          show (wr.setCell ⟨g, q, none⟩ (.int .u8 z')).heap[g]? = _
          rw [setCell_eq_setRow wr g q _ 5 (0, 0) _ HG.out, setRow_heap wr g _ _ _ _ HG.out, HX.out]
          congr 2
          rw [List.setIfInBounds_toArray, List.set_append_left _ _ (by simp; omega), List.map_set]
        have HBW : Hid (Below w1.heap.size w1 (wr.setCell ⟨g, q, none⟩ (.int .u8 z')).drew) := (HBr.out.setCell (p := ⟨g, q, none⟩) HBg.out _).drew
        clear hcell hfz
        generalize (wr.setCell ⟨g, q, none⟩ (.int .u8 z')).drew = W2 at *
        go_wp2_with fail
        go_roundw
        case rel => exact ⟨i + 1, by omega, by go_num, HW.out, HBW.out⟩
        case measure => simp [intOf]; omega
      · have hbit0 : wi / 2 ^ i % 2 = 0 := by omega
        have hcond : (bits BinOp.and IntKind.u32 ((wi : Int) / 2 ^ i) 1 == 1) = false := by rw [hand, hbit0]; rfl
        have HLow := hide (Crc.low_same k wi i hbit0)
        clear hand hbit hbit0
        go_wp2_with fail
        go_roundw
        case rel => exact ⟨i + 1, by omega, by go_num, by rw [HLow.out]; exact HG.out, HBr.out⟩
        case measure => simp [intOf]; omega
    · have hi : ¬ (i : Int) < 32 := by omega
      obtain rfl : i = 32 := by omega
      have HW := HG.out
      rw [Nat.mod_eq_of_lt (show wi < 2 ^ 32 from hwi)] at HW
      have hzl := HA.out.2.2.1.1
      have HN := hide (Crc.sums_apart zs k wi HA.out.bytes hwi hw0 (by omega))
      have hLl := Crc.xb_length zs (2 ^ k * wi)
      have hLb := Crc.xb_bytes zs (2 ^ k * wi) HA.out.bytes
      have HBall : Hid (Below w.heap.size w wr) := HB1.out.trans (HBr.out.mono HB1.out.size)
      have HS1 : Hid ((Sl.mk a len cap zs).ok wr) := HA.out.sl.below HBall.out
      have HS2 : Hid ((Sl.mk (some ⟨g, 0, none⟩) len cap' (Crc.xb zs (2 ^ k * wi))).ok wr) := by
        refine ⟨by show len ≤ maxLen; unfold maxLen; omega, ⟨by show (Crc.xb zs (2 ^ k * wi)).length = len; omega, .inr ⟨g, 0, rfl, (Array.getElem?_eq_some_iff.1 HW).1, fun j hj => ?_⟩⟩, hLb⟩
        have hj' : j < len := hj
        simp only [World.cell?, HW, Nat.zero_add]
        rw [List.getElem?_toArray, List.getElem?_append_left (by simp; omega), List.getElem?_map, List.getElem?_eq_getElem (by omega)]
        simp
        rw [List.getElem?_eq_getElem (by omega)]
        rfl
      clear HW hLl hLb
      generalize Crc.xb zs (2 ^ k * wi) = zs' at *
      go_wp2_with fail
      refine (sum_one ⟨a, len, cap, zs⟩ wr HS1.out).mono ?_
      rintro e w4 ⟨rfl, hb4⟩
      have HB4 := hide (HBall.out.trans (hb4.mono HBall.out.size))
      have HS4 := hide (HS2.out.below hb4)
      clear hb4
      generalize Crc.sum zs = y1 at *
      go_wp2_with fail
      refine (sum_one ⟨some ⟨g, 0, none⟩, len, cap', zs'⟩ w4 HS4.out).mono ?_
      rintro e w5 ⟨rfl, hb5⟩
      have HB5 := hide (HB4.out.trans (hb5.mono HB4.out.size))
      clear hb5
      generalize Crc.sum zs' = y2 at *
      have hne : ((y1 : Int) != (y2 : Int)) = true := by
        have := HN.out
        simp only [bne_iff_ne, ne_eq]
        omega
      go_wp2_with fail
      go_ret
      exact ⟨rfl, HB5.out⟩

theorem bursts_walk (a : Option Addr) (len cap : Nat) (zs : List Int) (at' wi : Int) (w : World) (hA : Arg .u8 w a len cap zs) (hat : (Lit.int .i64 at').wf = true) (hwi : (Lit.int .u32 wi).wf = true) :
    Calls Try.prog 8 #[.slice a len cap, .int .i64 at', .int .u32 wi] w fun e w' => e = .returned (.bool true) ∧ Below w.heap.size w w' := by
  obtain ⟨h0, h1⟩ := bd_u32 hwi
  by_cases h : len ≤ 300 ∧ 4 ≤ len ∧ wi ≠ 0
  · obtain ⟨n, rfl⟩ : ∃ n : Nat, wi = n := ⟨wi.toNat, by omega⟩
    exact bursts_walk_in a len cap zs at' n w hA hat (by omega) h.1 h.2.1 (by have := h.2.2; omega)
  · exact bursts_walk_out a len cap at' wi w (Nat.le_trans hA.1 hA.2.1) (by omega)
end Go.Proofs.Ythdbpnahjbnalaa
