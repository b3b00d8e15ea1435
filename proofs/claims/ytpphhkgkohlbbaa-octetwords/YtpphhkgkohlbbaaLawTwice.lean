/-
  The walk of the statement on two numbers that are put.
-/
import Derived.Test.YtpphhkgkohlbbaaOctG
import Derived.Deep.QuietTactic
import Derived.BigQuiet
namespace Go.Proofs.Ytpphhkgkohlbbaa
set_option linter.unusedVariables false
set_option linter.unusedSimpArgs false
open Go.RowKit

theorem below_drewN' (w : World) (n : Nat) : Below w.heap.size w (w.drewN n) := ⟨rfl, rfl, rfl, Nat.le_refl _, fun _ _ => rfl⟩

theorem splice_get {L l : List Int} {p : Nat} (h : p + l.length ≤ L.length) (j : Nat) : (splice L p l)[j]? = if p ≤ j ∧ j < p + l.length then l[j - p]? else L[j]? := by
  unfold splice
  rw [List.getElem?_append, List.length_take, Nat.min_eq_left (by omega)]
  by_cases h1 : j < p
  · rw [if_pos h1, if_neg (by omega), List.getElem?_take, if_pos h1]
  · rw [if_neg h1, List.getElem?_append]
    by_cases h2 : j - p < l.length
    · rw [if_pos h2, if_pos (by omega)]
    · rw [if_neg h2, if_neg (by omega), List.getElem?_drop]
      congr 1
      omega

theorem splice_same {L l : List Int} {p n : Nat} (h : p + l.length ≤ L.length) (hn : l.length = n) : ((splice L p l).drop p).take n = l := by
  apply List.ext_getElem?
  intro j
  rw [List.getElem?_take, List.getElem?_drop]
  by_cases hj : j < n
  · rw [if_pos hj, splice_get h, if_pos (by omega)]
    congr 1
    omega
  · rw [if_neg hj, List.getElem?_eq_none (by omega)]

theorem splice_other {L l : List Int} {p q n : Nat} (h : p + l.length ≤ L.length) (hd : q + n ≤ p ∨ p + l.length ≤ q) : ((splice L p l).drop q).take n = (L.drop q).take n := by
  apply List.ext_getElem?
  intro j
  rw [List.getElem?_take, List.getElem?_take, List.getElem?_drop, List.getElem?_drop]
  by_cases hj : j < n
  · rw [if_pos hj, if_pos hj, splice_get h, if_neg (by omega)]
  · rw [if_neg hj, if_neg hj]

theorem splice_comm {L l m : List Int} {p q : Nat} (h : p + l.length ≤ L.length) (k : q + m.length ≤ L.length) (hd : p + l.length ≤ q ∨ q + m.length ≤ p) : splice (splice L p l) q m = splice (splice L q m) p l := by
  have e1 := length_splice L p l h
  have e2 := length_splice L q m k
  apply List.ext_getElem?
  intro j
  rw [splice_get (L := splice L p l) (by omega), splice_get h, splice_get (L := splice L q m) (by omega), splice_get k]
  by_cases h1 : q ≤ j ∧ j < q + m.length
  · rw [if_pos h1, if_neg (by omega), if_pos h1]
  · rw [if_neg h1, if_neg h1]

theorem bytes_splice {L l : List Int} {p : Nat} (h : Nums.Bytes L) (k : Nums.Bytes l) : Nums.Bytes (splice L p l) :=
  Nums.bytes_append (Nums.bytes_take h _) (Nums.bytes_append k (Nums.bytes_drop h _))

theorem rd_lay8 {v : Int} (h0 : 0 ≤ v) (h1 : v ≤ 18446744073709551615) : Nums.rd (Nums.lay v 8) = v := by
  rw [Nums.rd_lay, show (256 : Int) ^ 8 = 18446744073709551616 from rfl]
  exact Int.emod_eq_of_lt h0 (by omega)

theorem rest_num (a n : Int) (hn : 1 ≤ n) (hn2 : n ≤ 1000) : (wrap64 (a.tmod n + n)).tmod n = a % n := by
  have h0 := Int.emod_nonneg a (show n ≠ 0 by omega)
  have h1 := Int.emod_lt_of_pos a (show 0 < n by omega)
  have hx : a.tmod n = a % n ∨ a.tmod n = a % n - n := by
    rw [Int.tmod_eq_emod]
    split
    · exact .inl (by omega)
    · exact .inr (by omega)
  have hw : wrap64 (a.tmod n + n) = a.tmod n + n := by
    unfold wrap64
    omega
  rw [hw, Int.tmod_eq_emod_of_nonneg (by omega)]
  rcases hx with e | e
  · rw [e, Int.add_emod_right, Int.emod_emod]
  · rw [e, Int.sub_add_cancel, Int.emod_emod]

set_option maxHeartbeats 400000 in
theorem rest_any (a n : Int) (w : World) (hn : 1 ≤ n) (hn2 : n ≤ 1000) (ha : (Lit.int .i64 a).wf = true) :
    Calls Try.prog 19 #[.int .i64 a, .int .i64 n] w fun e w' => e = .returned (.int .i64 (a % n)) ∧ w' = w := by
  obtain ⟨h1, h2⟩ := bd_i64 ha
  clear ha
  have h0 : (n == 0) = false := by simp; omega
  go_enter Try.func19, Try.ntmps19
  go_wp2
  go_ret
  exact ⟨congrArg (fun x => Ending.returned (Value.int .i64 x)) (rest_num a n hn hn2), rfl⟩

set_option maxHeartbeats 1000000 in
theorem twice_walk_out (a : Option Addr) (len cap : Nat) (x y u v : Int) (w : World) (hl : ¬ len ≤ 1000 ∨ len < 16) (hm : len ≤ maxLen) :
    Calls Try.prog 7 #[.slice a len cap, .agg #[.int .i64 x, .int .i64 y], .agg #[.int .u64 u, .int .u64 v]] w fun e w' => e = .returned (.bool true) ∧ Below w.heap.size w w' := by
  unfold maxLen at hm
  have hl' : (1000 : Int) < (len : Int) ∨ (¬ (1000 : Int) < (len : Int) ∧ (len : Int) < 16) := by omega
  clear hl
  rcases hl' with h1 | ⟨h1, h2⟩
  all_goals
    go_enter Try.func7, Try.ntmps7
    go_wp2_with fail
    refine (awake_any _).mono ?_
    rintro e w1 ⟨rfl, hb1⟩
    go_wp2_with fail
    refine (awake_any w1).mono ?_
    rintro e w2 ⟨rfl, hb2⟩
    go_wp2_with fail
    go_ret
    exact ⟨rfl, (((Below.refl _ _).alloc (Nat.le_refl _) _).alloc (by simp) _).trans ((hb1.trans (hb2.mono hb1.size)).mono (by simp; omega))⟩

theorem put8 (a : Option Addr) (len cap p : Nat) (v : Int) (zs : List Int) (w : World) (hl : len ≤ 1000) (hlc : len ≤ cap) (hr : Row .u8 w a len zs) (hv : (Lit.int .u64 v).wf = true) (hpn : p + 8 ≤ len) :
    Calls Try.prog 14 #[.slice a len cap, .int .i64 p, .int .i64 8, .int .u64 v] w fun e w' => e = .returned (.tuple #[.slice (some ⟨w.heap.size, 0, none⟩) len len, .bool true]) ∧ Below w.heap.size w w' ∧ Row .u8 w' (some ⟨w.heap.size, 0, none⟩) len (splice zs p (Nums.lay v 8)) := by
  have h := put_yes a len cap p 8 v zs w (by omega) hlc hr hv (by omega) (by omega) hpn
  rw [show ((8 : Nat) : Int) = 8 from rfl] at h
  refine h.mono fun e w' ⟨he, hb, hg⟩ => ⟨he, hb, row_of_block hg ?_⟩
  rw [length_splice _ _ _ (by rw [Nums.length_lay, hr.1]; exact hpn)]
  exact hr.1

theorem get8 (a : Option Addr) (len cap p : Nat) (zs : List Int) (w : World) (hl : len ≤ 1000) (hlc : len ≤ cap) (hr : Row .u8 w a len zs) (hz : Nums.Bytes zs) (hpn : p + 8 ≤ len) :
    Calls Try.prog 13 #[.slice a len cap, .int .i64 p, .int .i64 8] w fun e w' => e = .returned (.tuple #[.int .u64 (Nums.rd ((zs.drop p).take 8)), .bool true]) ∧ w' = w := by
  have h := get_yes a len cap p 8 zs w (by unfold maxLen; omega) hlc hr hz (by omega) (by omega) hpn
  rw [show ((8 : Nat) : Int) = 8 from rfl] at h
  exact h

theorem beq_str (s : ByteArray) : (s.toList == s.toList) = true := by simp

set_option maxHeartbeats 2000000 in
theorem twice_walk_in (a : Option Addr) (len cap : Nat) (zs : List Int) (x y u v : Int) (w : World) (hA : Arg .u8 w a len cap zs) (hx : (Lit.int .i64 x).wf = true) (hy : (Lit.int .i64 y).wf = true) (hu : (Lit.int .u64 u).wf = true) (hv : (Lit.int .u64 v).wf = true) (hl : len ≤ 1000) (hl2 : 16 ≤ len) :
    Calls Try.prog 7 #[.slice a len cap, .agg #[.int .i64 x, .int .i64 y], .agg #[.int .u64 u, .int .u64 v]] w fun e w' => e = .returned (.bool true) ∧ Below w.heap.size w w' := by
  have h1 : ¬ (1000 : Int) < (len : Int) := by omega
  have h2 : ¬ (len : Int) < 16 := by omega
  have hri := fun W => rest_any x ((len : Int) - 7) W (by omega) (by omega) hx
  have hrk := fun W => rest_any y ((len : Int) - 7) W (by omega) (by omega) hy
  obtain ⟨i, hi, hi8⟩ : ∃ i : Nat, x % ((len : Int) - 7) = i ∧ i + 8 ≤ len := by
    have := Int.emod_nonneg x (show (len : Int) - 7 ≠ 0 by omega)
    have := Int.emod_lt_of_pos x (show 0 < (len : Int) - 7 by omega)
    exact ⟨(x % ((len : Int) - 7)).toNat, by omega, by omega⟩
  obtain ⟨k, hk, hk8⟩ : ∃ k : Nat, y % ((len : Int) - 7) = k ∧ k + 8 ≤ len := by
    have := Int.emod_nonneg y (show (len : Int) - 7 ≠ 0 by omega)
    have := Int.emod_lt_of_pos y (show 0 < (len : Int) - 7 by omega)
    exact ⟨(y % ((len : Int) - 7)).toNat, by omega, by omega⟩
  rw [hi] at hri
  rw [hk] at hrk
  have HRI := hide hri
  have HRK := hide hrk
  have HA := hide hA
  have HU := hide hu
  have HV := hide hv
  have HUB := hide (bd_u64 hu)
  have HVB := hide (bd_u64 hv)
  clear hri hrk hi hk hA hx hy hu hv
  go_enter Try.func7, Try.ntmps7
  go_wp2_with fail
  refine (awake_any _).mono ?_
  rintro e w1 ⟨rfl, hb1⟩
  have hx0 : w1.cell? ⟨w.heap.size, 0, none⟩ = some (.int .i64 x) := (hb1.cell (p := ⟨w.heap.size, 0, none⟩) (by simp; omega)).trans (by simp)
  have hx1 : w1.cell? ⟨w.heap.size, 1, none⟩ = some (.int .i64 y) := (hb1.cell (p := ⟨w.heap.size, 1, none⟩) (by simp; omega)).trans (by simp)
  have hy0 : w1.cell? ⟨w.heap.size + 1, 0, none⟩ = some (.int .u64 u) := (hb1.cell (p := ⟨w.heap.size + 1, 0, none⟩) (by simp)).trans (by simp)
  have hy1 : w1.cell? ⟨w.heap.size + 1, 1, none⟩ = some (.int .u64 v) := (hb1.cell (p := ⟨w.heap.size + 1, 1, none⟩) (by simp)).trans (by simp)
  have hb : Below w.heap.size w w1 := (((Below.refl _ _).alloc (Nat.le_refl _) _).alloc (by simp) _).trans (hb1.mono (by simp; omega))
  clear hb1
  go_wp2_with fail
  refine (HRI.out w1).mono ?_
  rintro e w2 ⟨rfl, hw2⟩
  obtain rfl := hw2.symm
  go_wp2_with fail
  refine (HRK.out w1).mono ?_
  rintro e w2 ⟨rfl, hw2⟩
  obtain rfl := hw2.symm
  go_wp2_with fail
  go_quiet (fail)
  have hA1 := HA.out.below (hb.trans ((below_drewN' w1 nq).mono hb.size))
  have hz := hA1.bytes
  have hr1 := hA1.2.2.1
  have hlc := hA1.1
  clear hx0 hx1 hy0 hy1 HRI HRK
  have HB := hide (hb.trans ((below_drewN' w1 nq).mono hb.size))
  clear hb
  generalize w1.drewN nq = w1 at *
  have hzl := hr1.1
  have hlu := Nums.length_lay 8 u
  have hlv := Nums.length_lay 8 v
  have HRW := hide hr1
  have HZ := hide hz
  obtain ⟨L1, hL1⟩ : ∃ L1, L1 = splice zs i (Nums.lay u 8) := ⟨_, rfl⟩
  obtain ⟨L2, hL2⟩ : ∃ L2, L2 = splice zs k (Nums.lay v 8) := ⟨_, rfl⟩
  obtain ⟨L3, hL3⟩ : ∃ L3, L3 = splice L1 k (Nums.lay v 8) := ⟨_, rfl⟩
  obtain ⟨L4, hL4⟩ : ∃ L4, L4 = splice L2 i (Nums.lay u 8) := ⟨_, rfl⟩
  have hn1 : L1.length = len := by rw [hL1, length_splice _ _ _ (by omega)]; exact hzl
  have hn2 : L2.length = len := by rw [hL2, length_splice _ _ _ (by omega)]; exact hzl
  have hn3 : L3.length = len := by rw [hL3, length_splice _ _ _ (by omega)]; exact hn1
  have hz3 : Nums.Bytes L3 := by rw [hL3, hL1]; exact bytes_splice (bytes_splice hz (Nums.bytes_lay _ _)) (Nums.bytes_lay _ _)
  have hgk : Nums.rd ((L3.drop k).take 8) = v := by
    rw [hL3, splice_same (by omega) hlv, rd_lay8 HVB.out.1 HVB.out.2]
  have hgi : ¬ ((i : Int) - k < 8 ∧ (k : Int) - i < 8) → Nums.rd ((L3.drop i).take 8) = u := fun hd => by
    rw [hL3, splice_other (by omega) (by omega), hL1, splice_same (by omega) hlu, rd_lay8 HUB.out.1 HUB.out.2]
  have hcm : ¬ ((i : Int) - k < 8 ∧ (k : Int) - i < 8) → L3 = L4 := fun hd => by
    rw [hL3, hL4, hL1, hL2]
    exact splice_comm (by omega) (by omega) (by omega)
  have P1 := hide (put8 a len cap i u zs w1 hl hlc hr1 HU.out hi8)
  have P2 := hide (fun W (h : Row .u8 W a len zs) => put8 a len cap k v zs W hl hlc h HV.out hk8)
  have P3 := hide (fun W g (h : Row .u8 W (some ⟨g, 0, none⟩) len L1) => put8 (some ⟨g, 0, none⟩) len len k v L1 W hl (Nat.le_refl _) h HV.out hk8)
  have P4 := hide (fun W g (h : Row .u8 W (some ⟨g, 0, none⟩) len L2) => put8 (some ⟨g, 0, none⟩) len len i u L2 W hl (Nat.le_refl _) h HU.out hi8)
  rw [← hL1] at P1
  rw [← hL2] at P2
  rw [← hL3] at P3
  rw [← hL4] at P4
  have GK := hide (fun W g (h : Row .u8 W (some ⟨g, 0, none⟩) len L3) => get8 (some ⟨g, 0, none⟩) len len k L3 W hl (Nat.le_refl _) h hz3 hk8)
  have GI := hide (fun W g (h : Row .u8 W (some ⟨g, 0, none⟩) len L3) => get8 (some ⟨g, 0, none⟩) len len i L3 W hl (Nat.le_refl _) h hz3 hi8)
  rw [hgk] at GK
  have HGI := hide hgi
  have HCM := hide hcm
  clear hL1 hL2 hL3 hL4 hn1 hn2 hn3 hgk hgi hcm hlu hlv hzl hr1 hz hz3 hA1 HA
  go_wp2_with fail
  refine P1.out.mono ?_
  rintro e w2 ⟨rfl, hb2, hr2⟩
  have HB2 := hide hb2
  have HR2 := hide hr2
  clear hb2 hr2
  go_wp2_with fail
  refine (P3.out w2 _ HR2.out).mono ?_
  rintro e w3 ⟨rfl, hb3, hr3⟩
  have HB3 := hide hb3
  have HR3 := hide hr3
  clear hb3 hr3
  go_wp2_with fail
  refine (P2.out w3 ((HRW.out.below HB2.out).below HB3.out)).mono ?_
  rintro e w4 ⟨rfl, hb4, hr4⟩
  have HB4 := hide hb4
  have HR4 := hide hr4
  clear hb4 hr4
  go_wp2_with fail
  refine (P4.out w4 _ HR4.out).mono ?_
  rintro e w5 ⟨rfl, hb5, hr5⟩
  have HB5 := hide hb5
  have HR5 := hide hr5
  have HR35 := hide ((HR3.out.below HB4.out).below hb5)
  have HBE := hide (((((HB.out.trans (HB2.out.mono HB.out.size)).trans (HB3.out.mono (Nat.le_trans HB.out.size HB2.out.size))).trans (HB4.out.mono (Nat.le_trans HB.out.size (Nat.le_trans HB2.out.size HB3.out.size))))).trans (hb5.mono (Nat.le_trans HB.out.size (Nat.le_trans HB2.out.size (Nat.le_trans HB3.out.size HB4.out.size)))))
  clear hb5 hr5 P1 P2 P3 P4
  by_cases c1 : (i : Int) - (k : Int) < 8
  · by_cases c2 : (k : Int) - (i : Int) < 8
    · go_wp2_with fail
      refine (GK.out w5 _ HR35.out).mono ?_
      rintro e w6 ⟨rfl, hw6⟩
      obtain rfl := hw6.symm
      go_wp2_with fail
      go_ret
      exact ⟨rfl, HBE.out⟩
    · have hgi := HGI.out (by omega)
      have hcm := HCM.out (by omega)
      rw [hgi] at GI
      subst hcm
      have hcv3 := conv_bytes len HR35.out
      have hcv5 := conv_bytes len HR5.out
      clear hgi HGI HCM
      generalize strOfNums L3 = S at *
      go_wp2_with fail
      refine (GI.out w5 _ HR35.out).mono ?_
      rintro e w6 ⟨rfl, hw6⟩
      obtain rfl := hw6.symm
      go_wp2_with fail
      refine (GK.out w5 _ HR35.out).mono ?_
      rintro e w6 ⟨rfl, hw6⟩
      obtain rfl := hw6.symm
      go_wp2_with fail
      go_ret
      exact ⟨rfl, HBE.out⟩
  · have hgi := HGI.out (by omega)
    have hcm := HCM.out (by omega)
    rw [hgi] at GI
    subst hcm
    have hcv3 := conv_bytes len HR35.out
    have hcv5 := conv_bytes len HR5.out
    clear hgi HGI HCM
    generalize strOfNums L3 = S at *
    go_wp2_with fail
    refine (GI.out w5 _ HR35.out).mono ?_
    rintro e w6 ⟨rfl, hw6⟩
    obtain rfl := hw6.symm
    go_wp2_with fail
    refine (GK.out w5 _ HR35.out).mono ?_
    rintro e w6 ⟨rfl, hw6⟩
    obtain rfl := hw6.symm
    go_wp2_with fail
    go_ret
    exact ⟨rfl, HBE.out⟩

theorem twice_walk (a : Option Addr) (len cap : Nat) (zs : List Int) (x y u v : Int) (w : World) (hA : Arg .u8 w a len cap zs) (hx : (Lit.int .i64 x).wf = true) (hy : (Lit.int .i64 y).wf = true) (hu : (Lit.int .u64 u).wf = true) (hv : (Lit.int .u64 v).wf = true) :
    Calls Try.prog 7 #[.slice a len cap, .agg #[.int .i64 x, .int .i64 y], .agg #[.int .u64 u, .int .u64 v]] w fun e w' => e = .returned (.bool true) ∧ Below w.heap.size w w' := by
  by_cases h1 : ¬ len ≤ 1000 ∨ len < 16
  · exact twice_walk_out a len cap x y u v w h1 (Nat.le_trans hA.1 hA.2.1)
  · exact twice_walk_in a len cap zs x y u v w hA hx hy hu hv (by omega) (by omega)
end Go.Proofs.Ytpphhkgkohlbbaa
