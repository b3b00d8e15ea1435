/-
  The walk of the statement on getting and putting.
-/
import Derived.Test.YtpphhkgkohlbbaaLawTwice
import Derived.Test.YtpphhkgkohlbbaaClone
import Derived.Test.YtpphhkgkohlbbaaRegs
namespace Go.Proofs.Ytpphhkgkohlbbaa
set_option linter.unusedVariables false
set_option linter.unusedSimpArgs false
open Go.RowKit

set_option maxHeartbeats 1000000 in
theorem puts_walk_great (a : Option Addr) (len cap : Nat) (p n v : Int) (w : World) (hl : ¬ len ≤ 1000) (hm : len ≤ maxLen) :
    Calls Try.prog 4 #[.slice a len cap, .agg #[.int .i64 p, .int .i64 n], .int .u64 v] w fun e w' => e = .returned (.bool true) ∧ Below w.heap.size w w' := by
  have h1 : (1000 : Int) < (len : Int) := by omega
  unfold maxLen at hm
  go_enter Try.func4, Try.ntmps4
  go_wp2_with fail
  refine (awake_any _).mono ?_
  rintro e w1 ⟨rfl, hb1⟩
  go_wp2_with fail
  refine (awake_any w1).mono ?_
  rintro e w2 ⟨rfl, hb2⟩
  go_wp2_with fail
  go_ret
  exact ⟨rfl, ((Below.refl _ _).alloc (Nat.le_refl _) _).trans ((hb1.trans (hb2.mono hb1.size)).mono (by simp))⟩

set_option maxHeartbeats 2000000 in
theorem puts_walk_no (a : Option Addr) (len cap : Nat) (zs : List Int) (p n v : Int) (w : World) (hA : Arg .u8 w a len cap zs) (hp : (Lit.int .i64 p).wf = true) (hn : (Lit.int .i64 n).wf = true) (hl : len ≤ 1000) (hv : numB len p n = false) :
    Calls Try.prog 4 #[.slice a len cap, .agg #[.int .i64 p, .int .i64 n], .int .u64 v] w fun e w' => e = .returned (.bool true) ∧ Below w.heap.size w w' := by
  have h1 : ¬ (1000 : Int) < (len : Int) := by omega
  have hm : len ≤ maxLen := by unfold maxLen; omega
  have HA := hide hA
  have HV := hide hv
  clear hA hv
  go_enter Try.func4, Try.ntmps4
  go_wp2_with fail
  refine (awake_any _).mono ?_
  rintro e w1 ⟨rfl, hb1⟩
  have hx0 : w1.cell? ⟨w.heap.size, 0, none⟩ = some (.int .i64 p) := (hb1.cell (p := ⟨w.heap.size, 0, none⟩) (by simp)).trans (by simp)
  have hx1 : w1.cell? ⟨w.heap.size, 1, none⟩ = some (.int .i64 n) := (hb1.cell (p := ⟨w.heap.size, 1, none⟩) (by simp)).trans (by simp)
  have hb : Below w.heap.size w w1 := ((Below.refl _ _).alloc (Nat.le_refl _) _).trans (hb1.mono (by simp))
  clear hb1
  go_wp2_with fail
  go_quiet (fail)
  have HB := hide (hb.trans ((below_drewN' w1 nq).mono hb.size))
  clear hb hx0 hx1
  generalize w1.drewN nq = w1 at *
  have hA1 := hide (HA.out.below HB.out)
  go_wp2_with (at_builtin; go_must (refine wpList_clone rfl (.tmp 28) (.tmp 29) rfl w1.heap.size rfl (heap_alloc_new w1 _) w1.heap.size w1 ((Below.refl _ _).alloc (Nat.le_refl _) _) (Nat.le_refl _) a len cap zs rfl (hA1.out.below ((Below.refl _ _).alloc (Nat.le_refl _) _)) (by omega) ?_; intro g cap' w2 hb2 hA2; have HB2 := hide hb2; have HA2 := hide hA2; clear hb2 hA2))
  refine (get_no (some ⟨g, 0, none⟩) len cap' p n w2 hm hp hn HV.out).mono ?_
  rintro e w3 ⟨rfl, hw3⟩
  obtain rfl := hw3.symm
  go_wp2_with fail
  refine (put_no (some ⟨g, 0, none⟩) len cap' p n v w2 hm hp hn HV.out).mono ?_
  rintro e w3 ⟨rfl, hw3⟩
  obtain rfl := hw3.symm
  have hcv1 := conv_bytes cap' HA2.out.2.2.1
  have hcv2 := conv_bytes cap ((hA1.out.below HB2.out).2.2.1)
  generalize strOfNums zs = S at *
  have hc3 : n < 1 ∨ (¬ n < 1 ∧ 8 < n) ∨ (¬ n < 1 ∧ ¬ 8 < n) := by omega
  rcases hc3 with c | ⟨c, c'⟩ | ⟨c, c'⟩
  · go_wp2_with fail
    go_ret
    exact ⟨rfl, HB.out.trans (HB2.out.mono HB.out.size)⟩
  · go_wp2_with fail
    go_ret
    exact ⟨rfl, HB.out.trans (HB2.out.mono HB.out.size)⟩
  · have HH : Hid (hasB len p n = false) := by
      have h := HV.out
      rw [numB, show decide (1 ≤ n ∧ n ≤ 8) = true by simp; omega] at h
      exact h
    go_wp2_with fail
    refine (has_any a len cap p n w2 hm hp hn).mono ?_
    rintro e w3 ⟨rfl, hw3⟩
    obtain rfl := hw3.symm
    rw [HH.out]
    go_wp2_with fail
    go_ret
    exact ⟨rfl, HB.out.trans (HB2.out.mono HB.out.size)⟩

theorem Row.cutAt {k : IntKind} {w : World} {b off : Nat} {len : Nat} {zs : List Int} (h : Row k w (some ⟨b, off, none⟩) len zs) (p n : Nat) (hpn : p + n ≤ len) : Row k w (some ⟨b, off + p, none⟩) n ((zs.drop p).take n) := by
  by_cases h0 : n = 0
  · exact ⟨by have := h.1; simp; omega, .inl h0⟩
  · obtain ⟨b', off', he, h⟩ := h.cut p n hpn (by omega)
    simp only [Option.some.injEq, Addr.mk.injEq, and_true] at he
    obtain ⟨rfl, rfl⟩ := he
    exact h

theorem wf_lay_lt (v : Int) (h : (Lit.int .u64 v).wf = true) : 0 ≤ v ∧ v ≤ 18446744073709551615 := bd_u64 h

set_option maxHeartbeats 2000000 in
theorem puts_walk_yes (b off len cap p n : Nat) (zs : List Int) (v : Int) (w : World) (hA : Arg .u8 w (some ⟨b, off, none⟩) len cap zs) (hv : (Lit.int .u64 v).wf = true) (hl : len ≤ 1000) (hn1 : 1 ≤ n) (hn8 : n ≤ 8) (hpn : p + n ≤ len) :
    Calls Try.prog 4 #[.slice (some ⟨b, off, none⟩) len cap, .agg #[.int .i64 p, .int .i64 n], .int .u64 v] w fun e w' => e = .returned (.bool true) ∧ Below w.heap.size w w' := by
  have h1 : ¬ (1000 : Int) < (len : Int) := by omega
  have hm : len ≤ maxLen := by unfold maxLen; omega
  have hlc := hA.1
  have HA := hide hA
  have HV := hide hv
  clear hA hv
  go_enter Try.func4, Try.ntmps4
  go_wp2_with fail
  refine (awake_any _).mono ?_
  rintro e w1 ⟨rfl, hb1⟩
  have hx0 : w1.cell? ⟨w.heap.size, 0, none⟩ = some (.int .i64 p) := (hb1.cell (p := ⟨w.heap.size, 0, none⟩) (by simp)).trans (by simp)
  have hx1 : w1.cell? ⟨w.heap.size, 1, none⟩ = some (.int .i64 n) := (hb1.cell (p := ⟨w.heap.size, 1, none⟩) (by simp)).trans (by simp)
  have hb : Below w.heap.size w w1 := ((Below.refl _ _).alloc (Nat.le_refl _) _).trans (hb1.mono (by simp))
  clear hb1
  go_wp2_with fail
  go_quiet (fail)
  have HB := hide (hb.trans ((below_drewN' w1 nq).mono hb.size))
  clear hb hx0 hx1
  generalize w1.drewN nq = w1 at *
  have hA1 := hide (HA.out.below HB.out)
  have HZ := hide HA.out.bytes
  have HZL := hide HA.out.2.2.1.1
  clear HA
  go_wp2_with (at_builtin; go_must (refine wpList_clone rfl (.tmp 28) (.tmp 29) rfl w1.heap.size rfl (heap_alloc_new w1 _) w1.heap.size w1 ((Below.refl _ _).alloc (Nat.le_refl _) _) (Nat.le_refl _) (some ⟨b, off, none⟩) len cap zs rfl (hA1.out.below ((Below.refl _ _).alloc (Nat.le_refl _) _)) (by omega) ?_; intro g cap' w2 hb2 hA2; have HB2 := hide hb2; have HA2 := hide hA2; clear hb2 hA2))
  refine (get_yes (some ⟨g, 0, none⟩) len cap' p n zs w2 hm HA2.out.1 HA2.out.2.2.1 HZ.out hn1 hn8 hpn).mono ?_
  rintro e w3 ⟨rfl, hw3⟩
  obtain rfl := hw3.symm
  generalize hY1 : Nums.rd ((zs.drop p).take n) = y1 at *
  have HY1 := hide hY1
  clear hY1
  go_wp2_with fail
  refine (put_yes (some ⟨g, 0, none⟩) len cap' p n v zs w2 (by omega) HA2.out.1 HA2.out.2.2.1 HV.out hn1 hn8 hpn).mono ?_
  rintro e w3 ⟨rfl, hb3, hg3⟩
  have HB3 := hide hb3
  have hll := Nums.length_lay n v
  have hsl : (splice zs p (Nums.lay v n)).length = len := by rw [length_splice _ _ _ (by have := HZL.out; omega)]; exact HZL.out
  have HR3 := hide (row_of_block hg3 hsl)
  have HSL := hide hsl
  have HLL := hide hll
  clear hb3 hg3 hsl hll
  have hcv1 := conv_bytes cap' (HA2.out.2.2.1.below HB3.out)
  have hcv2 := conv_bytes cap (((hA1.out.below HB2.out).below HB3.out).2.2.1)
  generalize strOfNums zs = S at *
  have c1 : ¬ (n : Int) < 1 := by omega
  have c2 : ¬ 8 < (n : Int) := by omega
  go_wp2_with fail
  refine (has_any (some ⟨b, off, none⟩) len cap p n w3 hm (wf_nat (by omega)) (wf_nat (by omega))).mono ?_
  rintro e w4 ⟨rfl, hw4⟩
  obtain rfl := hw4.symm
  rw [show hasB len p n = true by simp [hasB]; omega]
  go_wp2_with fail
  have hg4 := get_yes (some ⟨w2.heap.size, 0, none⟩) len len p n (splice zs p (Nums.lay v n)) w3 hm (Nat.le_refl _) HR3.out (bytes_splice HZ.out (Nums.bytes_lay _ _)) hn1 hn8 hpn
  rw [splice_same (by have := HZL.out; have := HLL.out; omega) HLL.out] at hg4
  refine hg4.mono ?_
  rintro e w4 ⟨rfl, hw4⟩
  obtain rfl := hw4.symm
  clear hcv1 hcv2 hg4
  have HR := hide (((hA1.out.below HB2.out).below HB3.out).2.2.1)
  have HBE := hide ((HB.out.trans (HB2.out.mono HB.out.size)).trans (HB3.out.mono (Nat.le_trans HB.out.size HB2.out.size)))
  clear HB HB2 HB3 hA1 HA2
  have hVB := bd_u64 HV.out
  have HRL := hide (fun W => reflay_any v n W hVB.1 hVB.2 hn8)
  have HNL := hide (fun W => number_any (Nums.lay v n) W (by rw [HLL.out]; unfold maxLen; omega) (Nums.bytes_lay _ _))
  have HNB := hide (fun W => number_any ((zs.drop p).take n) W (by unfold maxLen; simp; omega) (Nums.bytes_take (Nums.bytes_drop HZ.out _) _))
  rw [List.take_of_length_le (by have := HLL.out; omega)] at HNL
  rw [List.take_of_length_le (i := 8) (by simp; omega), HY1.out] at HNB
  have hc1 := fun x : Later w3 => conv_bytes (cap - p) ((HR.out.cutAt p n hpn).below x.property)
  have hc2 := fun x : Later w3 => conv_bytes len (HR3.out.below x.property)
  have hc3 := fun x : Later w3 => conv_bytes cap ((HR.out.cutAt 0 p (by omega)).below x.property)
  have hS : strOfNums (zs.take p) ++ strOfNums (Nums.lay v n) ++ strOfNums (zs.drop (p + n)) = strOfNums (splice zs p (Nums.lay v n)) := by
    rw [str_append, str_append]
    unfold splice
    rw [HLL.out, List.append_assoc]
  have z1 := size_str (zs.take p)
  have z2 := size_str (Nums.lay v n)
  have z3 := size_str (zs.drop (p + n))
  have hz1 : (strOfNums (zs.take p)).size ≤ 1000 := by rw [z1]; simp; omega
  have hz2 : (strOfNums (Nums.lay v n)).size ≤ 1000 := by rw [z2, HLL.out]; omega
  have hz3 : (strOfNums (zs.drop (p + n))).size ≤ 1000 := by rw [z3]; have := HZL.out; simp; omega
  clear z1 z2 z3
  simp only [Nat.add_zero, List.drop_zero] at hc3
  have hwr : IntKind.i64.wrap ((p : Int) + (n : Int)) = (p : Int) + (n : Int) := by rw [IntKind.wrap_i64]; omega
  have htn : ((p : Int) + (n : Int)).toNat = p + n := by omega
  have hk0 : (0 : Int) ≤ (p : Int) + (n : Int) := by omega
  have hk1 : (p : Int) + (n : Int) ≤ (cap : Int) := by omega
  have hk2 : p + n ≤ cap := by omega
  have hk3 : (p : Int) + (n : Int) ≤ (len : Int) := by omega
  have hk4 : p + n ≤ len := by omega
  have hk5 : ¬ cap = p := by omega
  have hk6 : (p : Int) ≤ (cap : Int) := by omega
  have hne := later_some w3
  by_cases hce : cap = p + n
  · have hc4 := fun x : Later w3 => conv_bytes (w := x.val) (a := some ⟨b, off, none⟩) (len := 0) (zs := []) 0 ⟨rfl, .inl rfl⟩
    have hc1' := fun x : Later w3 => conv_bytes n ((HR.out.cutAt p n hpn).below x.property)
    clear hc1
    have hn0 : ¬ n = 0 := by omega
    have hk7 : (p : Int) ≤ (p : Int) + (n : Int) := by omega
    have hk8 : (0 : Int) ≤ (n : Int) := by omega
    have hk9 : p ≤ p + n := by omega
    have hlz := HZL.out
    obtain rfl : len = p + n := by omega
    have hdz : zs.drop (p + n) = [] := List.drop_of_length_le (by omega)
    rw [hdz] at hS hz3
    clear hdz
    subst hce
    clear HR HR3 HZ HZL HSL HY1 hVB HV hlz
    generalize strOfNums ((zs.drop p).take n) = S1 at *
    generalize strOfNums (splice zs p (Nums.lay v n)) = S2 at *
    generalize strOfNums (zs.take p) = S3 at *
    generalize strOfNums [] = S4 at *
    generalize strOfNums (Nums.lay v n) = S5 at *
    generalize Nums.rd (Nums.lay v n) = y2 at *
    have hq1 : ¬ 9223372036854775807 < S3.size + S5.size := by omega
    have hq2 : ¬ 9223372036854775807 < S3.size + S5.size + S4.size := by omega
    go_wp2_with fail
    refine wp_region_later (by kernel_rfl) (by kernel_rfl) ?_
    repeat (quiet_step (first | (go_at_call 12; refine calls_later (HRL.out _)) | (go_at_call_of 11 (Value.string S1); refine calls_later_same (HNB.out _)) | (go_at_call_of 11 (Value.string S5); refine calls_later_same (HNL.out _))))
    refine wpQuiet_nil ?_
    intro w9 hw9
    obtain ⟨⟨w9', hb9⟩, rfl⟩ := hw9
    clear hc1' hc2 hc3 hc4
    go_wp2
    go_ret
    exact ⟨rfl, HBE.out.trans (hb9.mono HBE.out.size)⟩
  · have hc4 := fun x : Later w3 => conv_bytes (cap - (p + n)) ((HR.out.cutAt (p + n) (len - (p + n)) (by omega)).below x.property)
    rw [List.take_of_length_le (i := len - (p + n)) (by have := HZL.out; simp; omega)] at hc4
    clear HR HR3 HZ HZL HSL HY1 hVB HV
    generalize strOfNums ((zs.drop p).take n) = S1 at *
    generalize strOfNums (splice zs p (Nums.lay v n)) = S2 at *
    generalize strOfNums (zs.take p) = S3 at *
    generalize strOfNums (zs.drop (p + n)) = S4 at *
    generalize strOfNums (Nums.lay v n) = S5 at *
    generalize Nums.rd (Nums.lay v n) = y2 at *
    have hq1 : ¬ 9223372036854775807 < S3.size + S5.size := by omega
    have hq2 : ¬ 9223372036854775807 < S3.size + S5.size + S4.size := by omega
    go_wp2_with fail
    refine wp_region_later (by kernel_rfl) (by kernel_rfl) ?_
    repeat (quiet_step (first | (go_at_call 12; refine calls_later (HRL.out _)) | (go_at_call_of 11 (Value.string S1); refine calls_later_same (HNB.out _)) | (go_at_call_of 11 (Value.string S5); refine calls_later_same (HNL.out _))))
    refine wpQuiet_nil ?_
    intro w9 hw9
    obtain ⟨⟨w9', hb9⟩, rfl⟩ := hw9
    clear hc1 hc2 hc3 hc4
    go_wp2
    go_ret
    exact ⟨rfl, HBE.out.trans (hb9.mono HBE.out.size)⟩

theorem puts_walk (a : Option Addr) (len cap : Nat) (zs : List Int) (p n v : Int) (w : World) (hA : Arg .u8 w a len cap zs) (hp : (Lit.int .i64 p).wf = true) (hn : (Lit.int .i64 n).wf = true) (hv : (Lit.int .u64 v).wf = true) :
    Calls Try.prog 4 #[.slice a len cap, .agg #[.int .i64 p, .int .i64 n], .int .u64 v] w fun e w' => e = .returned (.bool true) ∧ Below w.heap.size w w' := by
  have hlc := hA.1
  by_cases hl : len ≤ 1000
  · cases hb : numB len p n with
    | false => exact puts_walk_no a len cap zs p n v w hA hp hn hl hb
    | true =>
      simp only [numB, hasB, Bool.and_eq_true, decide_eq_true_eq] at hb
      obtain ⟨i, rfl⟩ : ∃ i : Nat, p = i := ⟨p.toNat, by omega⟩
      obtain ⟨j, rfl⟩ : ∃ j : Nat, n = j := ⟨n.toNat, by omega⟩
      obtain ⟨b, off, rfl⟩ : ∃ b off, a = some ⟨b, off, none⟩ := by
        rcases hA.2.2.2.2 with h | h
        · omega
        · exact h
      exact puts_walk_yes b off len cap i j zs v w hA hv hl (by omega) (by omega) (by omega)
  · exact puts_walk_great a len cap p n v w hl (Nat.le_trans hA.1 hA.2.1)
end Go.Proofs.Ytpphhkgkohlbbaa
