/-
  digit's own functions, over strconv.Itoa, strings.CutPrefix and strings.Cut: what each answers, for all arguments.
-/
import Derived.Test.YtinfjhfopmglaaaDoorDigB
import Derived.Test.YtinfjhfopmglaaaDoorDigMore
import Derived.Test.YtinfjhfopmglaaaDoorTabs
import Derived.Test.YtinfjhfopmglaaaDoorItoa
import Derived.Test.YtinfjhfopmglaaaDoorRunes
namespace Go.Proofs.YtinfjhfopmglaaaDoor
set_option linter.unusedVariables false
set_option linter.unusedSimpArgs false
open Go.RowKit

theorem show_any (n : Int) (w : World) (ht : Tabs w) (h : Dig.fits n) :
    Calls Tryd.prog 9 #[.int .i64 n] w fun e w' => e = .returned (.string (strOfNums (Dig.text n))) ∧ Below w.heap.size w w' := by
  have HI := hide (itoa_any n w ht h)
  go_enter Tryd.func9, Tryd.ntmps9
  go_wp2_with fail
  refine HI.out.mono ?_
  rintro e w1 ⟨rfl, hb1⟩
  have HB := hide hb1
  clear hb1
  go_wp2_with fail
  go_ret
  exact ⟨rfl, HB.out⟩

/-- lengthened. -/
theorem longer_any (n r : Int) (w : World) (hn : n ≤ 0) (hf : -9223372036854775808 ≤ n) (h0 : 0 ≤ r) (h1 : r ≤ 1114111) :
    Calls Tryd.prog 23 #[.int .i64 n, .int .i32 r] w fun e w' => e = .returned (.tuple #[.int .i64 (Dig.longer n r).1, .bool (Dig.longer n r).2]) ∧ w' = w := by
  by_cases hd : 48 ≤ r ∧ r ≤ 57
  · have q1 : ¬ r < 48 := by omega
    have q2 : ¬ 57 < r := by omega
    have e : (-9223372036854775808 + (r - 48)).tdiv 10 = -((9223372036854775808 - (r - 48)) / 10) := by
      rw [show -9223372036854775808 + (r - 48) = -(9223372036854775808 - (r - 48)) by omega, Int.neg_tdiv, Int.tdiv_eq_ediv_of_nonneg (by omega)]
    have q4 : wrap64 (-((9223372036854775808 - (r - 48)) / 10)) = -((9223372036854775808 - (r - 48)) / 10) := by simp only [wrap64]; omega
    by_cases hb : -9223372036854775808 ≤ n * 10 - (r - 48)
    · have HL : Hid (Dig.longer n r = (n * 10 - (r - 48), true)) := by
        show _ = _
        unfold Dig.longer
        rw [if_pos ⟨hd, hb⟩]
      have q3 : ¬ n < -((9223372036854775808 - (r - 48)) / 10) := by omega
      go_enter Tryd.func23, Tryd.ntmps23
      go_wp2_with fail
      go_ret2
      exact ⟨by rw [HL.out]; rfl, rfl⟩
    · have HL : Hid (Dig.longer n r = (0, false)) := by
        show _ = _
        unfold Dig.longer
        rw [if_neg (fun h => hb h.2)]
      have q3 : n < -((9223372036854775808 - (r - 48)) / 10) := by omega
      go_enter Tryd.func23, Tryd.ntmps23
      go_wp2_with fail
      go_ret2
      exact ⟨by rw [HL.out]; rfl, rfl⟩
  · have HL : Hid (Dig.longer n r = (0, false)) := by
      show _ = _
      unfold Dig.longer
      rw [if_neg (fun h => hd h.1)]
    have hbad : r < 48 ∨ (¬ r < 48 ∧ 57 < r) := by omega
    rcases hbad with q1 | ⟨q1, q2⟩
    all_goals
      go_enter Tryd.func23, Tryd.ntmps23
      go_wp2_with fail
      go_ret2
      exact ⟨by rw [HL.out]; rfl, rfl⟩

/-- strings.CutPrefix at a minus. -/
theorem cut_minus (r : List Int) (w : World) :
    Calls Tryd.prog 18 #[.string (strOfNums (45 :: r)), .string ⟨#[45]⟩] w fun e w' => e = .returned (.tuple #[.string (strOfNums r), .bool true]) ∧ w' = w := by
  refine (Tryd.strings_CutPrefix (strOfNums (45 :: r)) ⟨#[45]⟩ w).mono fun e w' ⟨he, hw⟩ => ⟨?_, hw⟩
  rw [he, strOfNums_data]
  rfl
theorem cut_plain (l : List Int) (hz : Nums.Bytes l) (h : ∀ r, l ≠ 45 :: r) (w : World) :
    Calls Tryd.prog 18 #[.string (strOfNums l), .string ⟨#[45]⟩] w fun e w' => e = .returned (.tuple #[.string (strOfNums l), .bool false]) ∧ w' = w := by
  refine (Tryd.strings_CutPrefix (strOfNums l) ⟨#[45]⟩ w).mono fun e w' ⟨he, hw⟩ => ⟨?_, hw⟩
  have e1 : Lib.hasPrefix (strOfNums l).data.toList (#[45] : Array UInt8).toList = false := by
    rw [strOfNums_data]
    match l, h with
    | [], _ => rfl
    | z :: r, h =>
      have hb := hz z (by simp)
      have hne : z ≠ 45 := fun e => h r (by rw [e])
      simp only [Lib.hasPrefix, List.map_cons, List.isPrefixOf, Bool.and_eq_false_imp, beq_iff_eq]
      intro e
      have e2 : UInt8.toNat 45 = UInt8.toNat (UInt8.ofNat z.toNat) := by rw [e]
      simp at e2
      omega
  rw [he]
  unfold Lib.trimPrefix
  rw [e1, if_neg (by simp)]

set_option maxHeartbeats 2000000 in
theorem negated_any (l : List Int) (w : World) (hz : Nums.Bytes l) (hm : l.length ≤ 1000) :
    Calls Tryd.prog 19 #[.string (strOfNums l)] w fun e w' => e = .returned (.tuple #[.int .i64 (Dig.nread l).1, .bool (Dig.nread l).2]) ∧ Below w.heap.size w w' := by
  have hsz := size_str l
  have HNR := hide (next_round l hz)
  have HE : Hid (l ≠ [] → ((strOfNums l).toList == ([] : List UInt8)) = false) := by
    intro h
    rw [str_toList]
    cases l with
    | nil => exact absurd rfl h
    | cons z r => rfl
  generalize hS : strOfNums l = S at *
  have HS := hide hS
  clear hS
  go_enter Tryd.func19, Tryd.ntmps19
  go_wp2
  go_loopw [4] (fun v wr => ∃ (pos : Nat), pos ≤ l.length ∧ wr.heap[w.heap.size]? = some (.stringIter S pos) ∧ Below w.heap.size w wr ∧ v = .int .i64 (-(Dig.val 0 (l.take pos))) ∧
      (∀ z ∈ l.take pos, 48 ≤ z ∧ z ≤ 57) ∧ (2 ≤ pos → ∀ r, l ≠ 48 :: r) ∧ 0 ≤ Dig.val 0 (l.take pos) ∧ Dig.val 0 (l.take pos) ≤ 9223372036854775808) (fun _ wr => l.length - wr.iterPos w.heap.size)
  case atStart => exact ⟨0, Nat.zero_le _, World.iter_heap w S 0, (Below.refl _ _).alloc (Nat.le_refl _) _, rfl, by simp, fun h => absurd h (by decide), by simp [Dig.val], by simp [Dig.val]⟩
  case round =>
    obtain ⟨pos, hpos, hk, hb, rfl, hdig, hno, hv0, hv1⟩ := hrel
    have HK := hide hk
    have HB := hide hb
    have HDig := hide hdig
    have HNo := hide hno
    clear hb hdig hno
    by_cases hp : pos < l.length
    · obtain ⟨r, wd, hnext, hwd, hpw, hr, hcase⟩ := HNR.out wr w.heap.size pos hk hp
      have HW : Hid ((wr.iterAt w.heap.size S (pos + wd)).heap[w.heap.size]? = some (.stringIter S (pos + wd))) := Lib.iterAt_heap wr _ S pos _ hk
      have HBW : Hid (Below w.heap.size w (wr.iterAt w.heap.size S (pos + wd))) := Lib.below_iterAt HB.out (Nat.le_refl _) _ _
      have HM : Hid (l.length - (pos + wd) < l.length - wr.iterPos w.heap.size) := by
        show _ < _
        simp [World.iterPos, hk]
        omega
      clear hk
      generalize wr.iterAt w.heap.size S (pos + wd) = W2 at *
      obtain ⟨y, hy⟩ : ∃ y, y = Dig.val 0 (l.take pos) := ⟨_, rfl⟩
      rw [← hy] at hv0 hv1 ⊢
      have HY := hide hy
      clear hy
      have HI2 : Hid (W2.iterPos w.heap.size = pos + wd) := by
        show _ = _
        have := HW.out
        simp [World.iterPos, this]
      rw [← HI2.out] at HM
      have HLon := hide (longer_any (-y) r W2 (by omega) (by omega) (by omega) (by omega))
      have HCase := hide hcase
      clear hcase
      by_cases hn0 : 0 < pos ∧ y = 0
      · obtain ⟨hp0, rfl⟩ := hn0
        have q0 : (0 : Int) < (pos : Int) := by omega
        have HR := hide (Dig.nread_nought hp0 hp HY.out.symm)
        go_wp2_with fail
        go_ret2
        exact ⟨by rw [HR.out]; rfl, HBW.out⟩
      · by_cases hgood : (48 ≤ r ∧ r ≤ 57) ∧ y * 10 + ((r : Int) - 48) ≤ 9223372036854775808
        · have eL : Dig.longer (-y) r = (-(y * 10 + ((r : Int) - 48)), true) := by
            unfold Dig.longer
            rw [if_pos ⟨by omega, by omega⟩]
            congr 1
            omega
          rw [eL] at HLon
          clear eL
          have HL2 : Hid (wd = 1 ∧ l[pos] = r) := by
            rcases HCase.out with ⟨h1, h2, h3⟩ | ⟨h1, h2⟩
            · exact ⟨h3, h2.symm⟩
            · omega
          have HV : Hid (y * 10 + ((r : Int) - 48) = Dig.val 0 (l.take (pos + 1))) := by
            show _ = _
            rw [List.take_succ_eq_append_getElem hp, Dig.val_snoc, ← HY.out, HL2.out.2]
          have HD2 : Hid (∀ z ∈ l.take (pos + 1), 48 ≤ z ∧ z ≤ 57) := by
            intro z hz'
            rw [List.take_succ_eq_append_getElem hp, List.mem_append, List.mem_singleton] at hz'
            rcases hz' with h | h
            · exact HDig.out z h
            · rw [h, HL2.out.2]; omega
          have HN2 : Hid (2 ≤ pos + 1 → ∀ x, l ≠ 48 :: x) := by
            intro h2 x e
            by_cases h3 : 2 ≤ pos
            · exact HNo.out h3 x e
            · have : pos = 1 := by omega
              subst this
              apply hn0
              refine ⟨by decide, ?_⟩
              rw [HY.out, e]
              rfl
          have HP1 : Hid (pos + 1 ≤ l.length ∧ 0 ≤ y * 10 + ((r : Int) - 48) ∧ y * 10 + ((r : Int) - 48) ≤ 9223372036854775808) := ⟨by omega, by omega, hgood.2⟩
          obtain ⟨rfl, _⟩ := HL2.out
          have q0 : ¬ ((0 : Int) < (pos : Int)) ∨ ((0 : Int) < (pos : Int) ∧ ((-y == 0) = false)) := by
            by_cases h : 0 < pos
            · exact .inr ⟨by omega, by rw [beq_eq_false_iff_ne]; omega⟩
            · exact .inl (by omega)
          generalize y * 10 + ((r : Int) - 48) = y2 at *
          clear hn0 hgood hv0 hv1
          rcases q0 with q0 | ⟨q0, q1⟩
          all_goals
            go_wp2_with fail
            refine HLon.out.mono ?_
            rintro e w1 ⟨rfl, hw⟩
            obtain rfl := hw.symm
            go_wp2_with fail
            go_roundw
            case rel => exact ⟨pos + 1, HP1.out.1, HW.out, HBW.out, by rw [HV.out], HD2.out, HN2.out, by rw [← HV.out]; exact HP1.out.2.1, by rw [← HV.out]; exact HP1.out.2.2⟩
            case measure => exact HM.out
        · have eL : Dig.longer (-y) r = (0, false) := by
            unfold Dig.longer
            rw [if_neg (fun h => hgood ⟨by omega, by omega⟩)]
          rw [eL] at HLon
          clear eL
          have HR : Hid (Dig.nread l = (0, false)) := by
            show _ = _
            rcases HCase.out with ⟨h1, h2, h3⟩ | ⟨h1, h2⟩
            · by_cases hd : 48 ≤ l[pos] ∧ l[pos] ≤ 57
              · refine Dig.nread_big (i := pos + 1) ?_
                rw [List.take_succ_eq_append_getElem hp, Dig.val_snoc, ← HY.out]
                omega
              · exact Dig.nread_bad hp hd
            · exact Dig.nread_bad hp (by omega)
          have q0 : ¬ ((0 : Int) < (pos : Int)) ∨ ((0 : Int) < (pos : Int) ∧ ((-y == 0) = false)) := by
            by_cases h : 0 < pos
            · exact .inr ⟨by omega, by rw [beq_eq_false_iff_ne]; omega⟩
            · exact .inl (by omega)
          clear hn0 hgood hv0 hv1
          rcases q0 with q0 | ⟨q0, q1⟩
          all_goals
            go_wp2_with fail
            refine HLon.out.mono ?_
            rintro e w1 ⟨rfl, hw⟩
            obtain rfl := hw.symm
            go_wp2_with fail
            go_ret2
            exact ⟨by rw [HR.out]; rfl, HBW.out⟩
    · obtain rfl : pos = l.length := by omega
      have hnext := next_end S wr w.heap.size l.length hk (by omega)
      clear hk
      have e0 := List.take_of_length_le (Nat.le_refl l.length)
      rw [e0] at hv0 hv1 ⊢
      rw [e0] at HDig
      by_cases hnil : l = []
      · have HR : Hid (Dig.nread l = (0, false)) := by show _ = _; rw [hnil]; exact Dig.nread_nil
        have hS0 : S = ⟨#[]⟩ := by rw [← HS.out, hnil]; rfl
        have hy0 : Dig.val 0 l = 0 := by rw [hnil]; rfl
        rw [hy0]
        subst hS0
        go_wp2_with fail
        go_ret2
        exact ⟨by rw [HR.out]; rfl, HB.out⟩
      · have HR := hide (Dig.nread_good HDig.out hnil HNo.out hv1)
        have hE := HE.out hnil
        generalize Dig.val 0 l = y at *
        go_wp2_with fail
        go_ret2
        exact ⟨by rw [HR.out]; rfl, HB.out⟩
end Go.Proofs.YtinfjhfopmglaaaDoor
