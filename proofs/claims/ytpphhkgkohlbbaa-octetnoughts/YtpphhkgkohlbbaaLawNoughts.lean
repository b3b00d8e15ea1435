/-
  The walk of the statement on noughts.
-/
import Derived.Test.YtpphhkgkohlbbaaOctG
namespace Go.Proofs.Ytpphhkgkohlbbaa
set_option linter.unusedVariables false
set_option linter.unusedSimpArgs false
open Go.RowKit

theorem step_call3 {P : Program} {ops : Array Oper} {o : Oper} {a : Act} {w : World} {K : Act → World → Prop} {Q : Exit → Act → World → Prop} {E : Prop}
    (hgd : o.guard = none) (f : FuncId) (hcf : ∀ args w, (callFunc f args).run P w = .ok (.enter f args) w) (x y z : Operand) (tys : Array TypeId) (hop : o.op = .call { callee := .value (.func f), args := #[x, y, z], argTypes := tys })
    (t u v : Value) (hx : a.eval x = t) (hy : a.eval y = u) (hz : a.eval z = v) {R : Ending → World → Prop} (hc : Calls P f #[t, u, v] w R)
    (h : ∀ e w', R e w' → ∃ v, e = .returned v ∧ K (a.put o.dst v) w') :
    if Region.wanted o (yielded ops a.tmps) = true then Oper.wp P o a w K Q else E :=
  step_call hgd f hcf #[x, y, z] tys hop #[t, u, v] (by simp [hx, hy, hz]) hc h

theorem str_zero (zs : List Int) (hz : Nums.Bytes zs) (n : Nat) (h : zs.length = n) : ((strOfNums zs).toList == (strOfNums (List.replicate n 0)).toList) = zeroB zs := by
  rw [ByteArray.toList_eq, ByteArray.toList_eq, strOfNums_data, strOfNums_data]
  subst h
  induction zs with
  | nil => rfl
  | cons z r ih =>
    have hb := (Nums.bytes_cons hz).1
    have ih := ih (Nums.bytes_cons hz).2
    have e : (UInt8.ofNat z.toNat == UInt8.ofNat (Int.toNat 0)) = (z == 0) := by
      rw [Bool.eq_iff_iff]
      simp [← UInt8.toNat_inj]
      omega
    simp only [List.length_cons, List.replicate_succ, List.map_cons, List.cons_beq_cons, ih, e]
    simp [zeroB]

set_option maxHeartbeats 1000000 in
theorem noughts_walk_great (a : Option Addr) (len cap : Nat) (p n : Int) (w : World) (hl : ¬ len ≤ 1000) (hm : len ≤ maxLen) :
    Calls Try.prog 5 #[.slice a len cap, .int .i64 p, .int .i64 n] w fun e w' => e = .returned (.bool true) ∧ Below w.heap.size w w' := by
  have h1 : (1000 : Int) < (len : Int) := by omega
  unfold maxLen at hm
  go_enter Try.func5, Try.ntmps5
  go_wp2_with fail
  refine (awake_any w).mono ?_
  rintro e w1 ⟨rfl, hb1⟩
  go_wp2_with fail
  refine (awake_any w1).mono ?_
  rintro e w2 ⟨rfl, hb2⟩
  go_wp2_with fail
  go_ret
  exact ⟨rfl, hb1.trans (hb2.mono hb1.size)⟩

set_option maxHeartbeats 1000000 in
theorem noughts_walk_no (a : Option Addr) (len cap : Nat) (p n : Int) (w : World) (hl : len ≤ 1000) (hp : (Lit.int .i64 p).wf = true) (hn : (Lit.int .i64 n).wf = true) (hv : hasB len p n = false) :
    Calls Try.prog 5 #[.slice a len cap, .int .i64 p, .int .i64 n] w fun e w' => e = .returned (.bool true) ∧ Below w.heap.size w w' := by
  have h1 : ¬ (1000 : Int) < (len : Int) := by omega
  have hm : len ≤ maxLen := by unfold maxLen; omega
  have HV := hide hv
  clear hv
  go_enter Try.func5, Try.ntmps5
  go_wp2_with fail
  refine (awake_any w).mono ?_
  rintro e w1 ⟨rfl, hb1⟩
  go_wp2_with fail
  refine (has_any a len cap p n w1 hm hp hn).mono ?_
  rintro e w2 ⟨rfl, hw2⟩
  obtain rfl := hw2.symm
  rw [HV.out]
  go_wp2_with fail
  refine (noughts_no a len cap p n w1 hm hp hn HV.out).mono ?_
  rintro e w3 ⟨rfl, hw3⟩
  obtain rfl := hw3.symm
  go_wp2_with fail
  go_ret
  exact ⟨rfl, hb1⟩

set_option maxHeartbeats 1000000 in
theorem noughts_walk_yes (a : Option Addr) (len cap p n : Nat) (zs : List Int) (w : World) (hA : Arg .u8 w a len cap zs) (hl : len ≤ 1000) (hpn : p + n ≤ len) (hcp : ¬ cap = p) :
    Calls Try.prog 5 #[.slice a len cap, .int .i64 p, .int .i64 n] w fun e w' => e = .returned (.bool true) ∧ Below w.heap.size w w' := by
  have h1 : ¬ (1000 : Int) < (len : Int) := by omega
  have hm : len ≤ maxLen := by unfold maxLen; omega
  have hlc := hA.1
  have hv : hasB len p n = true := by simp [hasB]; omega
  have HV := hide hv
  clear hv
  obtain ⟨b, off, rfl⟩ : ∃ b off, a = some ⟨b, off, none⟩ := by
    rcases hA.2.2.2.2 with h | h
    · omega
    · exact h
  have HA := hide hA
  clear hA
  go_enter Try.func5, Try.ntmps5
  go_wp2_with fail
  refine (awake_any w).mono ?_
  rintro e w1 ⟨rfl, hb1⟩
  go_wp2_with fail
  refine (has_any (some ⟨b, off, none⟩) len cap p n w1 hm (wf_nat (by omega)) (wf_nat (by omega))).mono ?_
  rintro e w2 ⟨rfl, hw2⟩
  obtain rfl := hw2.symm
  rw [HV.out]
  go_wp2_with fail
  have hA1 := HA.out.below hb1
  have hz := hA1.bytes
  have hr1 := hA1.2.2.1
  have hzl := hr1.1
  obtain ⟨B, hB⟩ : ∃ B, B = Obj.cells (blk .u8 (List.replicate n 0)) 5 := ⟨_, rfl⟩
  have hd : Below w1.heap.size w1 w1.drew := (Below.refl _ _).drew
  have hda : Below w1.heap.size w1 (w1.alloc B).drew := ((Below.refl _ _).alloc (Nat.le_refl _) _).drew
  have hcut : Row .u8 w1 (some ⟨b, off + p, none⟩) n ((zs.drop p).take n) := by
    by_cases h0 : n = 0
    · exact ⟨by simp; omega, .inl h0⟩
    · obtain ⟨b', off', he, h⟩ := hr1.cut p n hpn (by omega)
      simp only [Option.some.injEq, Addr.mk.injEq, and_true] at he
      obtain ⟨rfl, rfl⟩ := he
      exact h
  have hcv1 := conv_bytes (cap - p) (hcut.below hd)
  have hcv2 := conv_bytes (cap - p) (hcut.below hda)
  have hg3 : (w1.alloc B).drew.heap[w1.heap.size]? = some (.cells (blk .u8 (List.replicate n 0)) 5 (0, 0)) := by
    rw [hB]
    exact heap_alloc_new w1 _
  have hcv3 := conv_bytes n (row_of_block (n := n) hg3 (by simp))
  have hc := fun W (h : Row .u8 W (some ⟨b, off, none⟩) len zs) => noughts_yes (some ⟨b, off, none⟩) len cap p n zs W hm hlc h hz hpn
  have R1 := hide (hr1.below hd)
  have R2 := hide (hr1.below hda)
  have heq := str_zero ((zs.drop p).take n) (Nums.bytes_take (Nums.bytes_drop hz p) n) n (by simp; omega)
  have HC := hide hc
  have hmk := make_bytes n (by omega)
  rw [← hB] at hmk
  clear hc hg3 hcut hr1 hA1 hd hda hB hzl HA hz
  generalize strOfNums ((zs.drop p).take n) = S at *
  generalize strOfNums (List.replicate n 0) = T at *
  generalize zeroB ((zs.drop p).take n) = q at *
  have hwr : IntKind.i64.wrap ((p : Int) + (n : Int)) = (p : Int) + (n : Int) := by rw [IntKind.wrap_i64]; omega
  have htn : ((p : Int) + (n : Int)).toNat = p + n := by omega
  have hk0 : (0 : Int) ≤ (p : Int) + (n : Int) := by omega
  have hk1 : (p : Int) + (n : Int) ≤ (cap : Int) := by omega
  have hk2 : p + n ≤ cap := by omega
  go_region_with (go_at_call 16; refine (HC.out _ ?_).mono ?_; (first | (with_reducible exact R1.out) | (with_reducible exact R2.out)); rintro e w2 ⟨rfl, hw2⟩; obtain rfl := hw2.symm)
  all_goals
    clear hcv1 hcv2 hcv3 hmk
    go_wp2
    go_ret
    exact ⟨rfl, (hb1.alloc hb1.size _).drew⟩

set_option maxHeartbeats 1000000 in
theorem noughts_walk_end (a : Option Addr) (len p : Nat) (zs : List Int) (w : World) (hA : Arg .u8 w a len p zs) (hl : len ≤ 1000) (hpn : p ≤ len) :
    Calls Try.prog 5 #[.slice a len p, .int .i64 p, .int .i64 0] w fun e w' => e = .returned (.bool true) ∧ Below w.heap.size w w' := by
  have h1 : ¬ (1000 : Int) < (len : Int) := by omega
  have hm : len ≤ maxLen := by unfold maxLen; omega
  have hlc := hA.1
  have hv : hasB len p 0 = true := by simp [hasB]; omega
  have HV := hide hv
  clear hv
  have HA := hide hA
  clear hA
  go_enter Try.func5, Try.ntmps5
  go_wp2_with fail
  refine (awake_any w).mono ?_
  rintro e w1 ⟨rfl, hb1⟩
  go_wp2_with fail
  refine (has_any a len p p 0 w1 hm (wf_nat (by omega)) (by decide)).mono ?_
  rintro e w2 ⟨rfl, hw2⟩
  obtain rfl := hw2.symm
  rw [HV.out]
  go_wp2_with fail
  have hA1 := HA.out.below hb1
  have hz := hA1.bytes
  have hr1 := hA1.2.2.1
  obtain ⟨B, hB⟩ : ∃ B, B = Obj.cells (blk .u8 (List.replicate 0 0)) 5 := ⟨_, rfl⟩
  have hd : Below w1.heap.size w1 w1.drew := (Below.refl _ _).drew
  have hda : Below w1.heap.size w1 (w1.alloc B).drew := ((Below.refl _ _).alloc (Nat.le_refl _) _).drew
  have hcut : Row .u8 w1 a 0 [] := ⟨rfl, .inl rfl⟩
  have hcv1 := conv_bytes 0 (hcut.below hd)
  have hcv2 := conv_bytes 0 (hcut.below hda)
  have hcv3 := conv_bytes 0 (show Row .u8 (w1.alloc B).drew (some ⟨w1.heap.size, 0, none⟩) 0 [] from ⟨rfl, .inl rfl⟩)
  have hc := fun W (h : Row .u8 W a len zs) => noughts_yes a len p p 0 zs W hm hlc h hz (by omega)
  have R1 := hide (hr1.below hd)
  have R2 := hide (hr1.below hda)
  have hq : zeroB ((zs.drop p).take 0) = true := by simp [zeroB]
  rw [hq, show ((0 : Nat) : Int) = 0 from rfl] at hc
  have HC := hide hc
  have hmk := make_bytes 0 (by omega)
  rw [← hB, show ((0 : Nat) : Int) = 0 from rfl] at hmk
  clear hc hcut hr1 hA1 hd hda hB HA hz hq
  have heq : ((strOfNums []).toList == (strOfNums []).toList) = true := by simp
  generalize strOfNums [] = S at *
  have hwr : IntKind.i64.wrap (p : Int) = (p : Int) := by rw [IntKind.wrap_i64]; omega
  have hk0 : (0 : Int) ≤ (p : Int) := by omega
  go_region_with (go_at_call 16; refine (HC.out _ ?_).mono ?_; (first | (with_reducible exact R1.out) | (with_reducible exact R2.out)); rintro e w2 ⟨rfl, hw2⟩; obtain rfl := hw2.symm)
  all_goals
    clear hcv1 hcv2 hcv3 hmk
    go_wp2
    go_ret
    exact ⟨rfl, (hb1.alloc hb1.size _).drew⟩

theorem noughts_walk (a : Option Addr) (len cap : Nat) (zs : List Int) (p n : Int) (w : World) (hA : Arg .u8 w a len cap zs) (hp : (Lit.int .i64 p).wf = true) (hn : (Lit.int .i64 n).wf = true) :
    Calls Try.prog 5 #[.slice a len cap, .int .i64 p, .int .i64 n] w fun e w' => e = .returned (.bool true) ∧ Below w.heap.size w w' := by
  have hlc := hA.1
  by_cases hl : len ≤ 1000
  · cases hv : hasB len p n with
    | false => exact noughts_walk_no a len cap p n w hl hp hn hv
    | true =>
      simp only [hasB, decide_eq_true_eq] at hv
      obtain ⟨i, rfl⟩ : ∃ i : Nat, p = i := ⟨p.toNat, by omega⟩
      obtain ⟨j, rfl⟩ : ∃ j : Nat, n = j := ⟨n.toNat, by omega⟩
      by_cases hcp : cap = i
      · subst hcp
        obtain rfl : j = 0 := by omega
        exact noughts_walk_end a len cap zs w hA hl (by omega)
      · exact noughts_walk_yes a len cap i j zs w hA hl (by omega) hcp
  · exact noughts_walk_great a len cap p n w hl (Nat.le_trans hA.1 hA.2.1)
end Go.Proofs.Ytpphhkgkohlbbaa
