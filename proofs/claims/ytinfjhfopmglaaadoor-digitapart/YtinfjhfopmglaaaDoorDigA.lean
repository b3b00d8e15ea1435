/-
  The document's Show and Read: what each answers, for all arguments.
-/
import Derived.Test.YtinfjhfopmglaaaDoorStrs
import Derived.Test.YtinfjhfopmglaaaDoorBytes
import Derived.Test.YtinfjhfopmglaaaDoorDigNums
namespace Go.Proofs.YtinfjhfopmglaaaDoor
set_option linter.unusedVariables false
set_option linter.unusedSimpArgs false
open Go.RowKit

theorem digit_rem (m : Int) : (m.tmod 10 < 0 → -(m.tmod 10) = ((m.natAbs % 10 : Nat) : Int)) ∧ (¬ m.tmod 10 < 0 → m.tmod 10 = ((m.natAbs % 10 : Nat) : Int)) ∧ -9 ≤ m.tmod 10 ∧ m.tmod 10 ≤ 9 := by
  rcases Int.le_total 0 m with h | h
  · rw [Int.tmod_eq_emod_of_nonneg h]
    omega
  · have e : m.tmod 10 = -((-m).tmod 10) := by rw [Int.neg_tmod, Int.neg_neg]
    rw [e, Int.tmod_eq_emod_of_nonneg (by omega)]
    omega
theorem digit_quo (m : Int) : (m.tdiv 10).natAbs = m.natAbs / 10 := Int.natAbs_tdiv m 10

/-- a loop's round: one digit more ahead of the others. -/
theorem show_step {a j : Nat} {l : List Int} {full : List Int} (h0 : a ≠ 0) (hj : j ≤ 19) (ha : a < 10 ^ (19 - j)) (h : full = Dig.dg (19 - j) a ++ l) :
    j + 1 ≤ 19 ∧ a / 10 < 10 ^ (19 - (j + 1)) ∧ full = Dig.dg (19 - (j + 1)) (a / 10) ++ (((48 + a % 10 : Nat) : Int) :: l) := by
  have hj' : j < 19 := by
    rcases Nat.lt_or_ge j 19 with h | h
    · exact h
    · rw [show 19 - j = 0 by omega] at ha
      simp at ha
      exact absurd ha h0
  obtain ⟨q, hq⟩ : ∃ q, 19 - j = q + 1 := ⟨19 - (j + 1), by omega⟩
  rw [hq] at ha h
  rw [show 19 - (j + 1) = q by omega]
  refine ⟨by omega, by rw [Nat.pow_succ] at ha; omega, ?_⟩
  rw [h, Dig.dg_pos _ _ h0, List.append_assoc]
  rfl

set_option maxHeartbeats 2000000 in
theorem ref_show_any (n : Int) (w : World) (h : Dig.fits n) :
    Calls Tryd.prog 11 #[.int .i64 n] w fun e w' => e = .returned (.string (strOfNums (Dig.text n))) ∧ Below w.heap.size w w' := by
  by_cases hz : n = 0
  · subst hz
    go_enter Tryd.func11, Tryd.ntmps11
    go_wp2
    go_ret
    exact ⟨rfl, Below.refl _ _⟩
  · have hz' : (n == 0) = false := by simpa using hz
    have hlt := Dig.abs_lt h
    have h1 := h.1
    have h2 := h.2
    go_enter Tryd.func11, Tryd.ntmps11
    go_wp2
    go_loopw [3, 4, 5] (fun s v _ wr => ∃ (j : Nat) (m : Int) (l : List Int), v = .int .i64 m ∧ s = .string (strOfNums l) ∧ l.length = j ∧ j ≤ 19 ∧ m.natAbs < 10 ^ (19 - j) ∧ Dig.dg 19 n.natAbs = Dig.dg (19 - j) m.natAbs ++ l ∧ Dig.fits m ∧ Below w.heap.size w wr) (fun _ v _ _ => (intOf v).natAbs)
    case atStart => exact ⟨0, n, [], rfl, rfl, rfl, Nat.zero_le _, hlt, by simp, h, Below.refl _ _⟩
    case round =>
      obtain ⟨j, m, l, rfl, rfl, hlj, hj, hm, hd, hf, hb⟩ := hrel
      have HB := hide hb
      have hm1 := hf.1
      have hm2 := hf.2
      clear hb hf
      have hsz := size_str l
      generalize hS : strOfNums l = S at *
      have HS := hide hS
      clear hS
      by_cases h0 : m = 0
      · subst h0
        rw [show (0 : Int).natAbs = 0 from rfl, Dig.dg_zero, List.nil_append] at hd
        by_cases hn : n < 0
        · have HT : Hid (strOfNums [45] ++ S = strOfNums (Dig.text n)) := by
            show _ = _
            rw [← HS.out, str_append, Dig.text_neg hn, hd]
            rfl
          go_wp2
          go_ret
          exact ⟨congrArg (fun x => Ending.returned (Value.string x)) HT.out, HB.out⟩
        · have HT : Hid (S = strOfNums (Dig.text n)) := by
            show _ = _
            rw [← HS.out, Dig.text_pos (by omega), hd]
          go_wp2
          go_ret
          exact ⟨by rw [← HT.out]; rfl, HB.out⟩
      · have hs := show_step (a := m.natAbs) (by omega) hj hm hd
        have hq := digit_quo m
        obtain ⟨r1, r2, r3, r4⟩ := digit_rem m
        have h0' : (m != 0) = true := by simpa using h0
        have hq2 : Dig.fits (m.tdiv 10) := by
          have := Int.natAbs_tdiv m 10
          unfold Dig.fits
          omega
        obtain ⟨t, ht⟩ : ∃ t : Nat, m.natAbs % 10 = t := ⟨_, rfl⟩
        have ht9 : t ≤ 9 := by omega
        rw [ht] at hs r1 r2
        rw [show ((48 + t : Nat) : Int) = 48 + (t : Int) by omega] at hs
        have hcv : (convert 34 9 (.slice (some ⟨wr.heap.size, 0, none⟩) 1 1)).run Tryd.prog (wr.alloc (.cells #[.int .u8 (48 + (t : Int))] 5)) = .ok (.string (strOfNums [48 + (t : Int)])) (wr.alloc (.cells #[.int .u8 (48 + (t : Int))] 5)) :=
          conv_bytes 1 (row_of_block (e := 5) (zs := [48 + (t : Int)]) (heap_alloc_new wr _) rfl)
        have hsz1 := size_str [48 + (t : Int)]
        have HT : Hid (strOfNums [48 + (t : Int)] ++ S = strOfNums ((48 + (t : Int)) :: l)) := by
          show _ = _
          rw [← HS.out, str_append]
          rfl
        have HST := hide hs
        clear hs ht
        generalize strOfNums [48 + (t : Int)] = T at *
        have hmeas : (m.tdiv 10).natAbs < m.natAbs := by rw [hq]; omega
        by_cases hd0 : m.tmod 10 < 0
        · have hdm : m.tmod 10 = -(t : Int) := by have := r1 hd0; omega
          have ht0 : 0 < t := by omega
          clear r1 r2 r3 r4 hd hd0
          go_wp2
          go_roundw
          case rel => exact ⟨j + 1, m.tdiv 10, (48 + (t : Int)) :: l, by go_num, by rw [HT.out], by simp [hlj], HST.out.1, by rw [hq]; exact HST.out.2.1, by rw [hq]; exact HST.out.2.2, hq2, HB.out.alloc HB.out.size _⟩
          case measure =>
            simp [intOf]
            show m.natAbs / 10 < m.natAbs
            omega
        · have hdm : m.tmod 10 = (t : Int) := r2 hd0
          clear r1 r2 r3 r4 hd hd0
          go_wp2
          go_roundw
          case rel => exact ⟨j + 1, m.tdiv 10, (48 + (t : Int)) :: l, by go_num, by rw [HT.out], by simp [hlj], HST.out.1, by rw [hq]; exact HST.out.2.1, by rw [hq]; exact HST.out.2.2, hq2, HB.out.alloc HB.out.size _⟩
          case measure =>
            simp [intOf]
            show m.natAbs / 10 < m.natAbs
            omega

theorem first_ne {l : List Int} {c : Int} (h : ∀ r, l ≠ c :: r) (hl : 0 < l.length) : ¬ l[0] = c := by
  cases l with
  | nil => simp at hl
  | cons x r =>
    intro e
    have e' : x = c := e
    exact h r (by rw [e'])
theorem w64_wrap64 (n : Int) : wrap64 n = Dig.w64 n := by unfold wrap64 Dig.w64; omega
theorem w64_wrap (n : Int) : IntKind.i64.wrap n = Dig.w64 n := by rw [IntKind.wrap_i64]; rfl

theorem rdw_snoc (neg : Bool) (a : Int) (l : List Int) (z : Int) : Dig.rdw neg a (l ++ [z]) = Dig.w64 (Dig.w64 (Dig.rdw neg a l * 10) + (if neg then -(z - 48) else z - 48)) := by simp [Dig.rdw]

set_option maxHeartbeats 2000000 in
theorem ref_read_any (l : List Int) (w : World) (hz : Nums.Bytes l) (hm : l.length ≤ maxLen) :
    Calls Tryd.prog 12 #[.string (strOfNums l)] w fun e w' => e = .returned (.tuple #[.int .i64 (Dig.read l).1, .bool (Dig.read l).2]) ∧ Below w.heap.size w w' := by
  unfold maxLen at hm
  have hsz := size_str l
  have hat := str_at l
  by_cases hl : l.length ≤ 20
  · have hl1 : ¬ (20 : Int) < (l.length : Int) := by omega
    generalize hS : strOfNums l = S at *
    have HS := hide hS
    clear hS
    by_cases hneg : ∃ r, l = 45 :: r
    · obtain ⟨r, rfl⟩ := hneg
      have hlr : (45 :: r).length = r.length + 1 := by simp
      have h0 : ((S[0]'(by simp at hsz; omega)).toNat : Int) = 45 := hat 0 (by simp) hz _
      go_enter Tryd.func12, Tryd.ntmps12
      go_wp2
      go_loop [4, 5, 6] (fun v i _ => ∃ k : Nat, k ≤ r.length + 1 ∧ i = .int .i64 k ∧ v = .int .i64 (Dig.rdw true 0 (r.take (k - 1)))) (fun _ i _ => r.length + 1 - (intOf i).toNat)
      case atStart => exact ⟨0, Nat.zero_le _, rfl, rfl⟩
      case round =>
        obtain ⟨k, hk, rfl, rfl⟩ := hrel
        by_cases hlt : k < r.length + 1
        · have hi : (k : Int) < (S.size : Int) := by omega
          by_cases hk0 : k = 0
          · subst hk0
            go_wp2
            go_round
            case rel => exact ⟨1, by omega, rfl, rfl⟩
            case measure => simp [intOf]
          · have hkp : (0 : Int) < (k : Int) := by omega
            have hzk := hat k (by rw [hlr]; exact hlt) hz (by omega)
            obtain ⟨z, hzz⟩ : ∃ z : Int, (45 :: r)[k]'(by rw [hlr]; exact hlt) = z := ⟨_, rfl⟩
            have hzb := hz _ (List.getElem_mem (show k < (45 :: r).length by rw [hlr]; exact hlt))
            rw [hzz] at hzk hzb
            have HS2 : Hid (Dig.w64 (Dig.w64 (Dig.rdw true 0 (r.take (k - 1)) * 10) + -(z - 48)) = Dig.rdw true 0 (r.take k)) := by
              show _ = _
              obtain ⟨q, rfl⟩ : ∃ q, k = q + 1 := ⟨k - 1, by omega⟩
              rw [Nat.add_sub_cancel, List.take_succ_eq_append_getElem (by omega), rdw_snoc]
              simp at hzz
              simp [hzz]
            generalize Dig.rdw true 0 (r.take (k - 1)) = y at *
            clear hat
            go_wp2
            go_round
            case rel => exact ⟨k + 1, by omega, by go_num, by
              rw [Nat.add_sub_cancel, ← HS2.out, w64_wrap64, w64_wrap64]⟩
            case measure => simp [intOf]; omega
        · have hi : ¬ (k : Int) < (S.size : Int) := by omega
          obtain rfl : k = r.length + 1 := by omega
          have HN := hide (Dig.num_neg r)
          rw [Nat.add_sub_cancel, List.take_of_length_le (Nat.le_refl _), ← Dig.num_neg r]
          have HF := hide (Dig.num_fits (45 :: r))
          have HSh := hide (ref_show_any (Dig.num (45 :: r)) w HF.out)
          clear hat h0
          by_cases he : (45 :: r) = Dig.text (Dig.num (45 :: r))
          · have HR : Hid (Dig.read (45 :: r) = (Dig.num (45 :: r), true)) := by unfold Dig.read; exact if_pos he
            have HE : Hid (strOfNums (Dig.text (Dig.num (45 :: r))) = S) := by show _ = _; rw [← he]; exact HS.out
            rw [HE.out] at HSh
            clear he
            generalize Dig.num (45 :: r) = y at *
            go_wp2_with fail
            refine HSh.out.mono ?_
            rintro e w1 ⟨rfl, hb1⟩
            have HB1 := hide hb1
            clear hb1
            go_wp2_with fail
            go_ret2
            exact ⟨by rw [HR.out]; rfl, HB1.out⟩
          · have HR : Hid (Dig.read (45 :: r) = (0, false)) := by unfold Dig.read; exact if_neg he
            have hne := str_ne (s := strOfNums (Dig.text (Dig.num (45 :: r)))) (t := S) (fun e => he (str_inj hz (Dig.text_bytes _) (HS.out.trans e.symm)))
            clear he
            generalize strOfNums (Dig.text (Dig.num (45 :: r))) = T at *
            generalize Dig.num (45 :: r) = y at *
            go_wp2_with fail
            refine HSh.out.mono ?_
            rintro e w1 ⟨rfl, hb1⟩
            have HB1 := hide hb1
            clear hb1
            go_wp2_with fail
            go_ret2
            exact ⟨by rw [HR.out]; rfl, HB1.out⟩
    · have hne45 : ∀ r, l ≠ 45 :: r := fun r e => hneg ⟨r, e⟩
      clear hneg
      go_enter Tryd.func12, Tryd.ntmps12
      go_wp2
      go_loop [4, 5, 6] (fun v i _ => ∃ k : Nat, k ≤ l.length ∧ i = .int .i64 k ∧ v = .int .i64 (Dig.rdw false 0 (l.take k))) (fun _ i _ => l.length - (intOf i).toNat)
      case atStart => exact ⟨0, Nat.zero_le _, rfl, rfl⟩
      case round =>
        obtain ⟨k, hk, rfl, rfl⟩ := hrel
        by_cases hlt : k < l.length
        · have hi : (k : Int) < (S.size : Int) := by omega
          have hzk := hat k hlt hz (by omega)
          have hz0 := hat 0 (by omega) hz (by omega)
          have h45 : ¬ l[0]'(by omega) = 45 := by
            intro e
            exact first_ne hne45 (by omega) e
          have hzb0 := hz _ (List.getElem_mem (show 0 < l.length by omega))
          obtain ⟨z, hzz⟩ : ∃ z : Int, l[k] = z := ⟨_, rfl⟩
          obtain ⟨z0, hzz0⟩ : ∃ z : Int, l[0]'(by omega) = z := ⟨_, rfl⟩
          have hzb := hz _ (List.getElem_mem hlt)
          rw [hzz] at hzk hzb
          rw [hzz0] at hz0 h45 hzb0
          have hb45 : (z0 == 45) = false := by simpa using h45
          have hb45' : (z0 != 45) = true := by simpa using h45
          have HS2 : Hid (Dig.w64 (Dig.w64 (Dig.rdw false 0 (l.take k) * 10) + (z - 48)) = Dig.rdw false 0 (l.take (k + 1))) := by
            show _ = _
            rw [List.take_succ_eq_append_getElem hlt, rdw_snoc]
            simp [hzz]
          generalize Dig.rdw false 0 (l.take k) = y at *
          clear hat
          by_cases hk0 : k = 0
          · subst hk0
            go_wp2
            go_round
            case rel => exact ⟨1, by omega, rfl, by rw [← HS2.out, w64_wrap64, w64_wrap64]⟩
            case measure => simp [intOf]; omega
          · have hkp : (0 : Int) < (k : Int) := by omega
            go_wp2
            go_round
            case rel => exact ⟨k + 1, by omega, by go_num, by rw [← HS2.out, w64_wrap64, w64_wrap64]⟩
            case measure => simp [intOf]; omega
        · have hi : ¬ (k : Int) < (S.size : Int) := by omega
          obtain rfl : k = l.length := by omega
          rw [List.take_of_length_le (Nat.le_refl _), ← Dig.num_else l hne45]
          have HF := hide (Dig.num_fits l)
          have HSh := hide (ref_show_any (Dig.num l) w HF.out)
          clear hat hne45
          by_cases he : l = Dig.text (Dig.num l)
          · have HR : Hid (Dig.read l = (Dig.num l, true)) := by unfold Dig.read; exact if_pos he
            have HE : Hid (strOfNums (Dig.text (Dig.num l)) = S) := by show _ = _; rw [← he]; exact HS.out
            rw [HE.out] at HSh
            clear he
            generalize Dig.num l = y at *
            go_wp2_with fail
            refine HSh.out.mono ?_
            rintro e w1 ⟨rfl, hb1⟩
            have HB1 := hide hb1
            clear hb1
            go_wp2_with fail
            go_ret2
            exact ⟨by rw [HR.out]; rfl, HB1.out⟩
          · have HR : Hid (Dig.read l = (0, false)) := by unfold Dig.read; exact if_neg he
            have hne := str_ne (s := strOfNums (Dig.text (Dig.num l))) (t := S) (fun e => he (str_inj hz (Dig.text_bytes _) (HS.out.trans e.symm)))
            clear he
            generalize strOfNums (Dig.text (Dig.num l)) = T at *
            generalize Dig.num l = y at *
            go_wp2_with fail
            refine HSh.out.mono ?_
            rintro e w1 ⟨rfl, hb1⟩
            have HB1 := hide hb1
            clear hb1
            go_wp2_with fail
            go_ret2
            exact ⟨by rw [HR.out]; rfl, HB1.out⟩
  · have HR : Hid (Dig.read l = (0, false)) := Dig.read_none fun n _ e => hl (by rw [e]; exact Dig.text_length)
    generalize strOfNums l = S at *
    have hl1 : (20 : Int) < (S.size : Int) := by omega
    clear hat
    go_enter Tryd.func12, Tryd.ntmps12
    go_wp2
    go_ret2
    exact ⟨by rw [HR.out]; rfl, Below.refl _ _⟩
end Go.Proofs.YtinfjhfopmglaaaDoor
