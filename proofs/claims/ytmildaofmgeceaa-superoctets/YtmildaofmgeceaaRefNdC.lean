/-
  The document's answers (layer 8): Ahead, Same; Ints, Int (layer 1).
-/
import Derived.Test.YtmildaofmgeceaaNdNums
import Derived.Test.YtmildaofmgeceaaOcN
import Derived.Test.YtmildaofmgeceaaGround
namespace Go.Proofs.Ytmildaofmgeceaa
set_option linter.unusedVariables false
set_option linter.unusedSimpArgs false
open Go.RowKit

theorem take_differ {L M : List Int} {j : Nat} (h : L.getD j 0 ≠ M.getD j 0) : L ≠ M := fun e => h (by rw [e])

set_option maxRecDepth 100000 in
set_option maxHeartbeats 1000000 in
theorem ints_any {w : World} {a c : Option Addr} {n m cap cap' : Nat} {L M : List Int} (hn : n ≤ 1000000) (hm : m ≤ 1000000) (ha : Row .i64 w a n L) (hc : Row .i64 w c m M) :
    Calls Try.prog 15 #[.slice a n cap, .slice c m cap'] w fun e w' => e = .returned (.bool (decide (L = M))) ∧ Below w.heap.size w w' := by
  by_cases hnm : n = m
  · subst hnm
    have hL := ha.1
    have hM := hc.1
    have HA := hide ha
    have HC := hide hc
    clear ha hc
    go_enter Try.func15, Try.ntmps15
    go_wp2_with fail
    go_loopw [5] (fun i wr => ∃ k : Nat, k ≤ n ∧ i = .int .i64 k ∧ Below w.heap.size w wr ∧ L.take k = M.take k) (fun i _ => n - (intOf i).toNat)
    case atStart => exact ⟨0, Nat.zero_le _, rfl, Below.refl _ _, rfl⟩
    case round =>
      obtain ⟨k, hk, rfl, hb, htk⟩ := hrel
      have HB := hide hb
      have HT := hide htk
      clear htk
      by_cases hlt : k < n
      · have hkn : (k : Int) < (n : Int) := by omega
        obtain ⟨_, h0 | ⟨b, off, rfl, hbw, hca⟩⟩ := HA.out.below hb
        · omega
        obtain ⟨_, h0 | ⟨b', off', rfl, hbw', hcb⟩⟩ := HC.out.below hb
        · omega
        have ka := hca k hlt
        have kb := hcb k hlt
        have HG : Hid (L.getD k 0 = M.getD k 0 → L.take (k + 1) = M.take (k + 1)) := fun e => by
          rw [List.take_succ_eq_append_getElem (by omega), List.take_succ_eq_append_getElem (by omega), HT.out]
          rw [List.getD_eq_getElem?_getD, List.getElem?_eq_getElem (by omega), List.getD_eq_getElem?_getD, List.getElem?_eq_getElem (by omega)] at e
          simp only [Option.getD_some] at e
          rw [e]
        have HD : Hid (L.getD k 0 ≠ M.getD k 0 → L ≠ M) := take_differ
        clear hca hcb hb hbw hbw' hL hM
        generalize L.getD k 0 = x at *
        generalize M.getD k 0 = y at *
        by_cases hxy : x = y
        · subst hxy
          have HG' := hide (HG.out rfl)
          clear HG HD
          go_wp2_with fail
          go_region
          go_wp2_with fail
          go_roundw
          case rel => exact ⟨k + 1, by omega, by go_num, HB.out.drew, HG'.out⟩
          case measure => simp [intOf]; omega
        · have hd : (x != y) = true := by simpa using hxy
          have HF : Hid (decide (L = M) = false) := decide_eq_false (HD.out hxy)
          clear HG HD
          go_wp2_with fail
          go_region
          go_wp2_with fail
          go_ret
          exact ⟨by rw [HF.out]; rfl, HB.out.drew⟩
      · have hkn : ¬ (k : Int) < (n : Int) := by omega
        have HE : Hid (decide (L = M) = true) := decide_eq_true (by
          have := HT.out
          rwa [List.take_of_length_le (by omega), List.take_of_length_le (by omega)] at this)
        go_wp2_with fail
        go_ret
        exact ⟨by rw [HE.out]; rfl, HB.out⟩
  · have hF : decide (L = M) = false := decide_eq_false (fun e => hnm (by rw [← ha.1, ← hc.1, e]))
    rw [hF]
    have hI : ¬ (n : Int) = (m : Int) := by omega
    have hbn : ((n : Int) != (m : Int)) = true := by simp [bne, hI]
    clear ha hc hF
    go_enter Try.func15, Try.ntmps15
    go_wp2_with fail
    go_ret
    exact ⟨rfl, Below.refl _ _⟩

set_option maxHeartbeats 400000 in
theorem rint_any (zs : List Int) (w : World) (hl : zs.length ≤ 8) (hz : Nums.Bytes zs) :
    Calls Try.prog 36 #[.string (strOfNums zs)] w fun e w' => e = .returned (.int .i64 (Nd.sgn (Nums.rd zs))) ∧ w' = w := by
  have hN := number_any zs w (by unfold maxLen; omega) hz
  rw [List.take_of_length_le hl] at hN
  have hb := Nums.rd_bounds zs hz
  have hp : (256 : Int) ^ zs.length ≤ 18446744073709551616 := by
    rw [show (256 : Int) ^ zs.length = ((256 ^ zs.length : Nat) : Int) from (Int.natCast_pow 256 _).symm]
    have := Nat.pow_le_pow_right (show 0 < 256 by decide) hl
    have e : (256 : Nat) ^ 8 = 18446744073709551616 := rfl
    omega
  have hw : IntKind.i64.wrap (Nums.rd zs) = Nd.sgn (Nums.rd zs) := by
    unfold Nd.sgn
    rw [IntKind.wrap_i64]
    split <;> omega
  have HN := hide hN
  clear hN hb hp
  generalize strOfNums zs = S at *
  generalize Nums.rd zs = r at *
  generalize Nd.sgn r = q at *
  go_enter Try.func36, Try.ntmps36
  go_wp2_with fail
  refine HN.out.mono ?_
  rintro e w' ⟨rfl, hw'⟩
  obtain rfl := hw'.symm
  go_wp2_with fail
  go_ret
  exact ⟨rfl, rfl⟩

theorem sgn_small {l : List Int} (hz : Nums.Bytes l) (hl : l.length ≤ 4) : Nd.sgn (Nums.rd l) = Nums.rd l := by
  have h := Nums.rd_bounds l hz
  have hq : (256 : Int) ^ l.length ≤ 256 ^ 4 := by
    rw [show (256 : Int) ^ l.length = ((256 ^ l.length : Nat) : Int) from (Int.natCast_pow 256 _).symm, show (256 : Int) ^ 4 = ((256 ^ 4 : Nat) : Int) from rfl]
    exact Int.ofNat_le.2 (Nat.pow_le_pow_right (by decide) hl)
  unfold Nd.sgn
  rw [if_pos (by omega)]

/-- a piece of a string, and the number that it is. -/
theorem piece (W : World) (s : List Int) (hz : Nums.Bytes s) (i n : Nat) (hn : n ≤ 4) : Calls Try.prog 36 #[.string ((strOfNums s).extract i (i + n))] W fun e w' => e = .returned (.int .i64 (Nums.rd ((s.drop i).take n))) ∧ w' = W := by
  rw [str_cut, Nat.add_sub_cancel_left]
  have h := rint_any ((s.drop i).take n) W (by simp; omega) (Nums.bytes_take (Nums.bytes_drop hz i) n)
  rw [sgn_small (Nums.bytes_take (Nums.bytes_drop hz i) n) (by simp; omega)] at h
  exact h
theorem piece8 (W : World) (s : List Int) (hz : Nums.Bytes s) (i n : Nat) (hn : n ≤ 8) : Calls Try.prog 36 #[.string ((strOfNums s).extract i (i + n))] W fun e w' => e = .returned (.int .i64 (Nd.sgn (Nums.rd ((s.drop i).take n)))) ∧ w' = W := by
  rw [str_cut, Nat.add_sub_cancel_left]
  exact rint_any ((s.drop i).take n) W (by simp; omega) (Nums.bytes_take (Nums.bytes_drop hz i) n)

/-- is an entry ahead of another one? (slot, gen, key of each) -/
def aheadB (s g k s' g' k' : Int) : Bool := if k = k' then (if s = s' then decide (g < g') else decide (s < s')) else decide (k < k')


/-- have two nodes the same entry? -/
def entryB (n m : Nd.N) : Bool := decide (n.slot = m.slot ∧ n.gen = m.gen ∧ n.key = m.key ∧ n.val = m.val)
theorem same_parts (n m : Nd.N) : Nd.same n m = (entryB n m && decide (n.kids = m.kids)) := by
  unfold Nd.same entryB
  rw [Bool.eq_iff_iff]
  simp only [Bool.and_eq_true, decide_eq_true_eq, and_assoc]


end Go.Proofs.Ytmildaofmgeceaa
