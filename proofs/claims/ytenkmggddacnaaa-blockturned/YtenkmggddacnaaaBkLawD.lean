/-
  Layer 7's statements: BlockTurned.
-/
import Derived.Test.YtenkmggddacnaaaBkLawC
import Derived.Laws.BitsAllLaws
namespace Go.Proofs.Ytenkmggddacnaaa
set_option linter.unusedVariables false
set_option linter.unusedSimpArgs false
open Go.RowKit

theorem bit_at (wi i : Nat) (h : wi < 4294967296) : bits .and .u32 ((wi : Int) / 2 ^ i) 1 = ((wi / 2 ^ i % 2 : Nat) : Int) := by
  have e : (wi : Int) / 2 ^ i = ((wi / 2 ^ i : Nat) : Int) := by rw [Int.natCast_ediv, Int.natCast_pow]; rfl
  have hd : wi / 2 ^ i < 4294967296 := Nat.lt_of_le_of_lt (Nat.div_le_self _ _) h
  rw [e, show (1 : Int) = ((1 : Nat) : Int) from rfl, u32_and_nat _ _ hd (by decide), Nat.and_one_is_mod]

/-- the world behind two arrays that were handed in. -/
theorem boxed (w : World) (xs : List Int) (p q : Int) (T : TypeId) : ∃ W, W = (w.alloc (.cells (blk .u8 xs) T)).alloc (.cells #[.int .u32 p, .int .u32 q] 37) ∧ W.cell? ⟨w.heap.size + 1, 0, none⟩ = some (.int .u32 p) ∧ W.cell? ⟨w.heap.size + 1, 1, none⟩ = some (.int .u32 q) ∧ W.heap[w.heap.size]? = some (.cells (blk .u8 xs) T (0, 0)) ∧ Below w.heap.size w W := by
  have e : (w.alloc (.cells (blk .u8 xs) T)).heap.size = w.heap.size + 1 := by simp
  have h1 := heap_alloc_new (w.alloc (.cells (blk .u8 xs) T)) (.cells #[.int .u32 p, .int .u32 q] 37)
  rw [e] at h1
  refine ⟨_, rfl, by simp only [World.cell?, h1]; rfl, by simp only [World.cell?, h1]; rfl, ?_, ((Below.refl w.heap.size w).alloc (Nat.le_refl _) _).alloc (by simp) _⟩
  rw [Below.heap_alloc _ _ _ (by simp)]
  exact heap_alloc_new w _

set_option maxRecDepth 100000 in
set_option maxHeartbeats 1000000 in
theorem turned_zero {w : World} (t : Int) (xs : List Int) (p : Nat) (hp : p < 4294967296) :
    Calls Try.prog 5 #[.int .u8 t, .agg (blk .u8 xs), .agg #[.int .u32 p, .int .u32 0]] w fun e w' => e = .returned (.bool true) ∧ Below w.heap.size w w' := by
  have HAW := hide (fun W => bawake_any W)
  obtain ⟨W, hW, c0, c1, _, hb⟩ := boxed w xs p 0 35
  have HB := hide hb
  clear hb
  go_enter Try.func5, Try.ntmps5
  go_wp2_with fail
  rw [← hW]
  clear hW
  go_big_quiet (fail)
  have HBN := hide (HB.out.trans ((bdrewN W nq).mono HB.out.size))
  clear c0 c1
  go_wp2_with fail
  refine (HAW.out _).mono ?_
  rintro e w1 ⟨rfl, hb1⟩
  have HB1 := hide (HBN.out.trans (hb1.mono HBN.out.size))
  clear hb1
  go_wp2_with fail
  refine (HAW.out _).mono ?_
  rintro e w2 ⟨rfl, hb2⟩
  have HB2 := hide (HB1.out.trans (hb2.mono HB1.out.size))
  clear hb2
  go_wp2_with fail
  go_ret
  exact ⟨rfl, HB2.out⟩

set_option maxRecDepth 100000 in
set_option maxHeartbeats 8000000 in
theorem turned_some {w : World} (t : Nat) (ht : t ≤ 255) (xs : List Int) (hx : xs.length = 56) (hxb : Nums.Bytes xs) (p wi : Nat) (hp : p < 4294967296) (hwi : wi < 4294967296) (hw0 : wi ≠ 0) :
    Calls Try.prog 5 #[.int .u8 t, .agg (blk .u8 xs), .agg #[.int .u32 p, .int .u32 wi]] w fun e w' => e = .returned (.bool true) ∧ Below w.heap.size w w' := by
  have HAW := hide (fun W => bawake_any W)
  obtain ⟨W, hW, c0, c1, hbx, hb⟩ := boxed w xs p wi 35
  have HB := hide hb
  have HBX := hide hbx
  clear hb hbx
  have h3 : ((wi : Int) == 0) = false := by rw [beq_eq_false_iff_ne]; omega
  obtain ⟨r, hr⟩ : ∃ r : Nat, t % 255 = r := ⟨_, rfl⟩
  obtain ⟨kd, hkd⟩ : ∃ kd : Nat, 1 + r = kd := ⟨_, rfl⟩
  have hrb : r < 255 := by omega
  have hk1 : (t : Int).tmod 255 = (r : Int) := by rw [Int.tmod_eq_emod_of_nonneg (by omega)]; omega
  have hk2 : (t : Int) % 255 = (r : Int) := by omega
  have hk3 : (1 : Int) + (r : Int) = (kd : Int) := by omega
  clear hr
  have hkb : 1 ≤ (kd : Int) ∧ (kd : Int) ≤ 255 := by omega
  have htb : 0 ≤ (t : Int) ∧ (t : Int) ≤ 255 := by omega
  obtain ⟨B, hB⟩ : ∃ B, Bk.shut kd t xs = B := ⟨_, rfl⟩
  have HBB : Hid (Nums.Bytes B) := by rw [← hB]; exact Bk.shut_bytes ⟨by omega, hkb.2⟩ htb hxb
  have HBL : Hid (B.length = 64) := by rw [← hB]; exact Bk.shut_length (by omega)
  have HIS : Hid (Bk.isB B = true) := by rw [← hB]; exact Bk.shut_isB (by omega) (by omega)
  have HSE : Hid (∀ (W' : World), Below W.heap.size W W' → Calls Try.prog 8 #[.int .i64 kd, .int .i64 t, .slice (some ⟨w.heap.size, 0, none⟩) 56 56] W' fun e w' => ∃ g c tail, e = .returned (.tuple #[.slice (some ⟨g, 0, none⟩) 64 c, .bool true]) ∧ 64 ≤ c ∧ c ≤ maxLen ∧ W'.heap.size ≤ g ∧ w'.heap[g]? = some (.cells (B.map (Value.int .u8) ++ tail).toArray 5 (0, 0)) ∧ Below W'.heap.size W' w') := fun W' hb' => by
    have hblk : W'.heap[w.heap.size]? = some (.cells (blk .u8 xs) 35 (0, 0)) := (hb'.block _ (lt_of_heap HBX.out)).trans HBX.out
    have hA : Arg .u8 W' (some ⟨w.heap.size, 0, none⟩) 56 56 xs := ⟨Nat.le_refl _, by unfold maxLen; decide, row_of_block hblk hx, fun z hz => wfu8 (hxb z hz), .inr ⟨_, _, rfl⟩⟩
    have := bseal_yes kd t hkb htb hA (by decide)
    rw [hB] at this
    exact this
  clear hB hxb hx hkd
  go_enter Try.func5, Try.ntmps5
  go_wp2_with fail
  rw [← hW]
  clear hW
  go_big_quiet (fail)
  have HBN := hide (bdrewN W nq)
  clear c0 c1
  go_wp2_with fail
  refine (HAW.out _).mono ?_
  rintro e w1 ⟨rfl, hb1⟩
  have HB1 := hide (HBN.out.trans (hb1.mono HBN.out.size))
  clear hb1
  go_wp2_with fail
  refine (HSE.out _ HB1.out).mono ?_
  rintro e w2 ⟨g, c, tail, rfl, hc, hcm, hg, hblk, hb2⟩
  have HB2 := hide (HB.out.trans ((HB1.out.trans (hb2.mono HB1.out.size)).mono HB.out.size))
  have HG : Hid (w.heap.size ≤ g) := Nat.le_trans HB.out.size (Nat.le_trans HB1.out.size hg)
  have HBLK := hide hblk
  clear hblk hb2 hg
  have HKK : Hid (∃ K : Nat, K + 32 ≤ 512 ∧ Bk.isB (Crc.xb B (2 ^ K * wi)) = false ∧ (((p : Int).tmod 8 = 0 ∧ (p : Int) % 8 = 0 ∧ K = 0) ∨ (∃ r8 r9 : Nat, r8 ≠ 0 ∧ (p : Int).tmod 8 = (r8 : Int) ∧ (p : Int) % 8 = (r8 : Int) ∧ (p : Int).tmod 449 = (r9 : Int) ∧ (p : Int) % 449 = (r9 : Int) ∧ r9 < 449 ∧ r8 < 8 ∧ (32 : Int) + (r9 : Int) = (K : Int)))) := by
    have e8 : (p : Int).tmod 8 = (p : Int) % 8 := Int.tmod_eq_emod_of_nonneg (by omega)
    have e9 : (p : Int).tmod 449 = (p : Int) % 449 := Int.tmod_eq_emod_of_nonneg (by omega)
    by_cases h8 : p % 8 = 0
    · refine ⟨0, by decide, ?_, .inl ⟨by rw [e8]; omega, by omega, rfl⟩⟩
      rw [Nat.pow_zero, Nat.one_mul]
      exact Bk.turned_head HBB.out HIS.out hwi hw0
    · refine ⟨32 + p % 449, by omega, Bk.turned_tail HBB.out HIS.out hwi hw0 (by omega), .inr ⟨p % 8, p % 449, h8, by rw [e8]; omega, by omega, by rw [e9]; omega, by omega, by omega, by omega, by omega⟩⟩
  obtain ⟨K, hK, hno, hcase⟩ := HKK.out
  have HNO := hide hno
  clear HKK hno hk1 hk2 hk3
  rcases hcase with ⟨q1, q2, hK0⟩ | ⟨r8, r9, hr8, q1, q2, q3, q4, hr9, hr8b, q5⟩
  all_goals
    first
      | (have HK0 := hide hK0; clear hK0)
      | (have hb8 : ((r8 : Int) != 0) = true := bne_iff_ne.2 (by omega); have hb8' : ¬ (r8 : Int) = 0 := (by omega); clear hr8)
    go_wp2_with fail
    first
      | conv in (occs := 1) Value.int IntKind.i64 0 => rw [show Value.int IntKind.i64 0 = Value.int IntKind.i64 (K : Int) by rw [HK0.out]; rfl]
      | skip
    clear q1 q2
    go_loopw [12] (fun u wr => ∃ i : Nat, i ≤ 32 ∧ u = .int .i64 i ∧ wr.heap[g]? = some (.cells ((Crc.xb B (2 ^ K * (wi % 2 ^ i))).map (Value.int .u8) ++ tail).toArray 5 (0, 0)) ∧ Below w.heap.size w wr) (fun u _ => 32 - (intOf u).toNat)
    case atStart =>
      have e0 : Crc.xb B (2 ^ K * (wi % 2 ^ 0)) = B := by rw [Nat.pow_zero, Nat.mod_one, Nat.mul_zero, Crc.xb_zero B HBB.out]
      exact ⟨0, Nat.zero_le _, rfl, by rw [e0]; exact HBLK.out, HB2.out⟩
    case round =>
      obtain ⟨i, hi32, rfl, hg, hbr⟩ := hrel
      have HGG := hide hg
      have HBr := hide hbr
      clear hg hbr
      by_cases hlt : i < 32
      · have hi : (i : Int) < 32 := by omega
        have hand := bit_at wi i hwi
        by_cases hbit : wi / 2 ^ i % 2 = 1
        · have hcond : (bits BinOp.and IntKind.u32 ((wi : Int) / 2 ^ i) 1 == 1) = true := by rw [hand, hbit]; rfl
          have HLow := hide (Crc.low_on K wi i hbit)
          clear hand hbit
          generalize hv : 2 ^ K * (wi % 2 ^ i) = v at *
          have HX := hide (Crc.xb_bit B v (K + i) (by rw [HBL.out]; omega))
          rw [← HLow.out] at HX
          clear hv HLow
          have hLl := Crc.xb_length B v
          rw [HBL.out] at hLl
          have hLb := Crc.xb_bytes B v HBB.out
          generalize Crc.xb B v = L at *
          have hm : (K : Int) + (i : Int) = ((K + i : Nat) : Int) := by omega
          have hm1 : K + i < 512 := by omega
          generalize K + i = m at *
          have hw1 : IntKind.i64.wrap ((K : Int) + (i : Int)) = (m : Int) := by rw [hm, IntKind.wrap_i64]; omega
          have hw2 : (m : Int).tdiv 8 = ((m / 8 : Nat) : Int) := by rw [Int.tdiv_eq_ediv_of_nonneg (by omega)]; omega
          have hw4 : (m : Int) / 8 = ((m / 8 : Nat) : Int) := by omega
          have hw5 : IntKind.i64.wrap ((m / 8 : Nat) : Int) = ((m / 8 : Nat) : Int) := by rw [IntKind.wrap_i64]; omega
          have hw3 : (m : Int).tmod 8 = ((m % 8 : Nat) : Int) := by rw [Int.tmod_eq_emod_of_nonneg (by omega)]; omega
          have hw6 : (m : Int) % 8 = ((m % 8 : Nat) : Int) := by omega
          clear hm
          have hq1 : m / 8 < 64 := by omega
          have hr1 : m % 8 < 8 := by omega
          generalize m / 8 = q at *
          generalize m % 8 = r' at *
          have hbz := byte_at hLb q
          obtain ⟨z, hz⟩ : ∃ z : Nat, L.getD q 0 = z := ⟨(L.getD q 0).toNat, by omega⟩
          rw [hz] at hbz
          have HX' := HX.out
          rw [hz, Int.toNat_natCast] at HX'
          have HX := hide HX'
          clear HX'
          obtain ⟨hcell, hfz⟩ := tail_cell HGG.out (j := q) (by omega)
          rw [hz] at hcell
          have h2r : 2 ^ r' < 2 ^ 8 := Nat.pow_lt_pow_right (by decide) hr1
          have e2r : ((2 ^ r' : Nat) : Int) = (2 : Int) ^ r' := by rw [Int.natCast_pow]; rfl
          have hx := u8_xor_nat z (2 ^ r') (by omega) h2r
          have hw7 : IntKind.u8.wrap ((2 : Int) ^ r') = (2 : Int) ^ r' := by
            rw [← e2r, IntKind.wrap_u8]
            exact Int.emod_eq_of_lt (Int.natCast_nonneg _) (Int.ofNat_lt.2 h2r)
          rw [e2r] at hx
          have hxl : z ^^^ 2 ^ r' < 2 ^ 8 := Nat.xor_lt_two_pow (by omega) h2r
          generalize z ^^^ 2 ^ r' = z' at *
          clear hz h2r e2r
          have hql : (q : Int) < 64 := by omega
          have HW : Hid ((wr.setCell ⟨g, q, none⟩ (.int .u8 z')).drew.heap[g]? = some (.cells ((Crc.xb B (2 ^ K * (wi % 2 ^ (i + 1)))).map (Value.int .u8) ++ tail).toArray 5 (0, 0))) := by
            show (wr.setCell ⟨g, q, none⟩ (.int .u8 z')).heap[g]? = _
            rw [tail_set HGG.out (by omega), HX.out]
          have HBW : Hid (Below w.heap.size w (wr.setCell ⟨g, q, none⟩ (.int .u8 z')).drew) := (HBr.out.setCell (p := ⟨g, q, none⟩) HG.out _).drew
          go_wp2_with fail
          go_region_with (fail)
          clear hcell hfz
          generalize (wr.setCell ⟨g, q, none⟩ (.int .u8 z')).drew = W2 at *
          go_wp2_with fail
          go_roundw
          case rel =>
            exact ⟨i + 1, by omega, by go_num, HW.out, HBW.out⟩
          case measure => simp [intOf]; omega
        · have hbit0 : wi / 2 ^ i % 2 = 0 := by omega
          have hcond : (bits BinOp.and IntKind.u32 ((wi : Int) / 2 ^ i) 1 == 1) = false := by rw [hand, hbit0]; rfl
          have HLow := hide (Crc.low_same K wi i hbit0)
          clear hand hbit hbit0
          go_wp2_with fail
          go_roundw
          case rel => exact ⟨i + 1, by omega, by go_num, by rw [HLow.out]; exact HGG.out, HBr.out⟩
          case measure => simp [intOf]; omega
      · have hi : ¬ (i : Int) < 32 := by omega
        obtain rfl : i = 32 := by omega
        have HW := HGG.out
        rw [Nat.mod_eq_of_lt (show wi < 2 ^ 32 from hwi)] at HW
        have hA := arg_tail HW (Crc.xb_bytes B _ HBB.out) (by rw [Crc.xb_length, HBL.out]) hc hcm
        have HO := hide (bopen_no hA (by decide) HNO.out)
        have HK := hide (fun W' (hb' : Below wr.heap.size wr W') => bkind_any (hA.below hb') (by decide))
        rw [HNO.out, if_neg (by decide)] at HK
        clear hA HW
        go_wp2_with fail
        refine HO.out.mono ?_
        rintro e w4 ⟨rfl, hb4⟩
        have HB4 := hide (HBr.out.trans (hb4.mono HBr.out.size))
        have HB44 := hide hb4
        clear hb4
        go_wp2_with fail
        refine (HK.out _ HB44.out).mono ?_
        rintro e w5 ⟨rfl, hb5⟩
        have HB5 := hide (HB4.out.trans (hb5.mono HB4.out.size))
        clear hb5
        go_wp2_with fail
        go_ret
        exact ⟨rfl, HB5.out⟩

theorem blockturned_own {w : World} {t : Int} (ht : (Lit.int .u8 t).wf = true) {xs : List Int} (hx : xs.length = 56) (hxw : ∀ x ∈ xs, (Lit.int .u8 x).wf = true) {p q : Int} (hp : (Lit.int .u32 p).wf = true) (hq : (Lit.int .u32 q).wf = true) :
    Calls Try.prog 5 #[.int .u8 t, .agg (xs.map (Value.int .u8)).toArray, .agg #[.int .u32 p, .int .u32 q]] w fun e w' => e = .returned (.bool true) ∧ Below w.heap.size w w' := by
  have h1 := bd_u8 ht
  have h2 := bd_u32 hp
  have h3 := bd_u32 hq
  obtain ⟨t, rfl⟩ : ∃ n : Nat, t = (n : Int) := ⟨t.toNat, by omega⟩
  obtain ⟨p, rfl⟩ : ∃ n : Nat, p = (n : Int) := ⟨p.toNat, by omega⟩
  obtain ⟨q, rfl⟩ : ∃ n : Nat, q = (n : Int) := ⟨q.toNat, by omega⟩
  by_cases h0 : q = 0
  · subst h0
    exact turned_zero t xs p (by omega)
  · exact turned_some t (by omega) xs hx (fun z hz => bd_u8 (hxw z hz)) p q (by omega) (by omega) h0
end Go.Proofs.Ytenkmggddacnaaa
