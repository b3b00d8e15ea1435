/-
  Which texts are names: the program's and the document's answers.
-/
import Derived.Test.YtkmndllomheegaaNameE
namespace Go.Proofs.Ytkmndllomheegaa
set_option linter.unusedVariables false
set_option linter.unusedSimpArgs false
open Go.RowKit

theorem right_no {m acc : List Nat} {r : Nat} {rest : List Nat} (h : acc ++ r :: rest = m) (hb : 8 ≤ acc.length ∨ ofR r = false) : rightR m = false := by
  subst h
  unfold rightR
  simp only [decide_eq_false_iff_not, not_and]
  intro h1 h2 h3
  rcases hb with h | h
  · simp at h2; omega
  · have := h3 r (by simp)
    rw [h] at this
    cases this
theorem right_end {m : List Nat} (h8 : m.length ≤ 8) (ha : ∀ r ∈ m, ofR r = true) : rightR m = decide (0 < m.length) := by
  unfold rightR
  by_cases h : 0 < m.length
  · rw [decide_eq_true h, decide_eq_true ⟨h, h8, ha⟩]
  · rw [decide_eq_false h, decide_eq_false (fun h' => h h'.1)]

set_option maxHeartbeats 1000000 in
theorem nright_any (l : List Int) (w : World) (hz : Nums.Bytes l) (hm : l.length ≤ 1000000) :
    Calls Try.prog 26 #[.string (strOfNums l)] w fun e w' => e = .returned (.bool (rightR (runes l))) ∧ Below w.heap.size w w' := by
  have hsz := size_str l
  have HNR := hide (next_dec l hz)
  have HOF := hide nof_any
  generalize strOfNums l = S at *
  go_enter Try.func26, Try.ntmps26
  go_wp2
  go_loopw [3] (fun v wr => ∃ (pos : Nat) (acc : List Nat), pos ≤ l.length ∧ wr.heap[w.heap.size]? = some (.stringIter S pos) ∧ Below w.heap.size w wr ∧ v = .int .i64 acc.length ∧ acc.length ≤ 8 ∧ (∀ r ∈ acc, ofR r = true) ∧ acc ++ runes (l.drop pos) = runes l) (fun _ wr => l.length - wr.iterPos w.heap.size)
  case atStart => exact ⟨0, [], Nat.zero_le _, World.iter_heap w S 0, (Below.refl _ _).alloc (Nat.le_refl _) _, rfl, by simp, by simp, rfl⟩
  case round =>
    obtain ⟨pos, acc, hpos, hk, hb, rfl, h8, hall, hacc⟩ := hrel
    have HB := hide hb
    have HA := hide hacc
    have HALL := hide hall
    clear hb hacc hall
    by_cases hp : pos < l.length
    · have hnext := HNR.out wr w.heap.size pos hk hp
      obtain ⟨h1, h2, h3⟩ := at_width hz hp
      have HR := hide (runes_at hz hp)
      have HW : Hid ((wr.iterAt w.heap.size S (pos + (dec (l.drop pos)).2)).heap[w.heap.size]? = some (.stringIter S (pos + (dec (l.drop pos)).2))) := Lib.iterAt_heap wr _ S pos _ hk
      have HBW : Hid (Below w.heap.size w (wr.iterAt w.heap.size S (pos + (dec (l.drop pos)).2))) := Lib.below_iterAt HB.out (Nat.le_refl _) _ _
      have HP : Hid (wr.iterPos w.heap.size = pos) := by
        show _ = _
        simp [World.iterPos, hk]
      clear hk
      generalize hwd : (dec (l.drop pos)).2 = wd at *
      generalize hr : (dec (l.drop pos)).1 = r at *
      generalize wr.iterAt w.heap.size S (pos + wd) = W2 at *
      have HAR : Hid (acc ++ r :: runes (l.drop (pos + wd)) = runes l) := by
        show _ = _
        rw [← HR.out, HA.out]
      clear hwd hr h3
      by_cases hn : acc.length = 8
      · have HF := hide (right_no HAR.out (.inl (by omega)))
        have hgt : (8 : Int) < (acc.length : Int) + 1 := by omega
        go_wp2_with fail
        go_ret
        exact ⟨by rw [HF.out]; rfl, HBW.out⟩
      · have hgt : ¬ (8 : Int) < (acc.length : Int) + 1 := by omega
        have HO2 := hide (HOF.out (r : Int) W2)
        cases hof : ofR (r : Int) with
        | false =>
          have HF := hide (right_no HAR.out (.inr hof))
          rw [hof] at HO2
          clear hof
          go_wp2_with fail
          refine HO2.out.mono ?_
          rintro e w1 ⟨rfl, hw⟩
          obtain rfl := hw.symm
          go_wp2_with fail
          go_ret
          exact ⟨by rw [HF.out]; rfl, HBW.out⟩
        | true =>
          rw [hof] at HO2
          have HOT := hide hof
          clear hof
          go_wp2_with fail
          refine HO2.out.mono ?_
          rintro e w1 ⟨rfl, hw⟩
          obtain rfl := hw.symm
          go_wp2_with fail
          go_roundw
          case rel =>
            refine ⟨pos + wd, acc ++ [r], h2, HW.out, HBW.out, by simp, by simp; omega, ?_, ?_⟩
            · intro x hx
              rcases List.mem_append.1 hx with h | h
              · exact HALL.out x h
              · rw [List.mem_singleton.1 h]; exact HOT.out
            · rw [← HAR.out]; simp
          case measure =>
            have e : W2.iterPos w.heap.size = pos + wd := by
              have := HW.out
              simp [World.iterPos, this]
            rw [e, HP.out]
            omega
    · obtain rfl : pos = l.length := by omega
      have hnext := next_end S wr w.heap.size l.length hk (by omega)
      clear hk
      have e1 : acc = runes l := by
        have := HA.out
        rw [List.drop_length, runes_nil, List.append_nil] at this
        exact this
      have HF := hide (right_end (m := acc) h8 HALL.out)
      have HE1 := hide e1
      clear e1
      by_cases h0 : 0 < acc.length
      · have hi0 : (0 : Int) < (acc.length : Int) := by omega
        rw [decide_eq_true h0] at HF
        go_wp2
        go_ret
        exact ⟨by rw [← HE1.out, HF.out]; rfl, HB.out⟩
      · have hi0 : ¬ (0 : Int) < (acc.length : Int) := by omega
        rw [decide_eq_false h0] at HF
        go_wp2
        go_ret
        exact ⟨by rw [← HE1.out, HF.out]; rfl, HB.out⟩

/-- what the document's Right has found behind k runes. -/
def okTo (m : List Nat) (k : Nat) : Bool := decide ((0 < m.length ∧ m.length ≤ 8) ∧ ∀ r ∈ m.take k, ofR r = true)
theorem okTo_end (m : List Nat) : okTo m m.length = rightR m := by
  unfold okTo rightR
  rw [List.take_of_length_le (Nat.le_refl _)]
  exact decide_eq_decide.2 and_assoc
theorem okTo_step (m : List Nat) (k : Nat) (h : k < m.length) : okTo m (k + 1) = (okTo m k && ofR (m[k] : Nat)) := by
  have hmem : ∀ r, r ∈ m.take (k + 1) ↔ r ∈ m.take k ∨ r = m[k] := fun r => by
    rw [List.take_succ_eq_append_getElem h, List.mem_append, List.mem_singleton]
  rw [Bool.eq_iff_iff, Bool.and_eq_true]
  unfold okTo
  rw [decide_eq_true_eq, decide_eq_true_eq]
  constructor
  · intro h1
    exact ⟨⟨h1.1, fun r hr => h1.2 r ((hmem r).2 (.inl hr))⟩, h1.2 m[k] ((hmem _).2 (.inr rfl))⟩
  · intro h1
    refine ⟨h1.1.1, fun r hr => ?_⟩
    rcases (hmem r).1 hr with h2 | h2
    · exact h1.1.2 r h2
    · rw [h2]; exact h1.2

set_option maxHeartbeats 1000000 in
theorem rnmright_any (l : List Int) (w : World) (hz : Nums.Bytes l) (hm : l.length ≤ 1000000) :
    Calls Try.prog 24 #[.string (strOfNums l)] w fun e w' => e = .returned (.bool (rightR (runes l))) ∧ Below w.heap.size w w' := by
  have HRR := hide (rrunes_any l w hz hm)
  have HOF := hide rof_any
  have hrl := runes_length hz
  generalize strOfNums l = S at *
  generalize runes l = m at *
  have HE := hide (okTo_end m)
  go_enter Try.func24, Try.ntmps24
  go_wp2_with fail
  refine HRR.out.mono ?_
  rintro e w1 ⟨a, cap, rfl, hle, hmax, hrow, hb⟩
  have HB := hide hb
  have HRow := hide hrow
  clear hb hrow
  have H0 : Hid (okTo m 0 = decide (0 < m.length ∧ m.length ≤ 8)) := by
    show _ = _
    unfold okTo
    simp
  have hstart : ((0 : Int) < (m.length : Int) ∧ (m.length : Int) ≤ 8 ∧ okTo m 0 = true) ∨ ((0 : Int) < (m.length : Int) ∧ ¬ (m.length : Int) ≤ 8 ∧ okTo m 0 = false) ∨ (¬ (0 : Int) < (m.length : Int) ∧ okTo m 0 = false) := by
    rw [H0.out]
    simp only [decide_eq_true_eq, decide_eq_false_iff_not]
    omega
  rcases hstart with ⟨s1, s2, s3⟩ | ⟨s1, s2, s3⟩ | ⟨s1, s3⟩
  all_goals
    have HS3 := hide s3
    clear s3
    go_wp2_with fail
    go_loopw [4, 5] (fun o i wr => ∃ k : Nat, k ≤ m.length ∧ i = .int .i64 k ∧ o = .bool (okTo m k) ∧ wr = w1) (fun _ i _ => m.length - (intOf i).toNat)
    case atStart => exact ⟨0, Nat.zero_le _, rfl, by rw [HS3.out]; try (congr 1; simp; omega), by trivial⟩
    case round =>
      obtain ⟨k, hk, rfl, rfl, rfl⟩ := hrel
      by_cases hlt : k < m.length
      · have hi : (k : Int) < (m.length : Int) := by omega
        obtain ⟨_, h0 | ⟨b, off, rfl, hbw, hc⟩⟩ := HRow.out
        · omega
        have hck := hc k hlt
        have hgd : (runeNums m).getD k 0 = ((m[k] : Nat) : Int) := by simp [runeNums, hlt]
        rw [hgd] at hck
        clear hc hgd
        have HST := hide (okTo_step m k hlt)
        have HO2 := hide (HOF.out ((m[k] : Nat) : Int) wr)
        generalize ((m[k] : Nat) : Int) = r at *
        cases ho : okTo m k with
        | true =>
          rw [ho, Bool.true_and] at HST
          clear ho
          go_wp2_with fail
          refine HO2.out.mono ?_
          rintro e w2 ⟨rfl, hw⟩
          obtain rfl := hw.symm
          go_wp2_with fail
          go_roundw
          case rel => exact ⟨k + 1, by omega, by go_num, by rw [HST.out], by trivial⟩
          case measure => simp [intOf]; omega
        | false =>
          rw [ho, Bool.false_and] at HST
          clear ho
          go_wp2_with fail
          go_roundw
          case rel => exact ⟨k + 1, by omega, by go_num, by rw [HST.out], by trivial⟩
          case measure => simp [intOf]; omega
      · have hi : ¬ (k : Int) < (m.length : Int) := by omega
        obtain rfl : k = m.length := by omega
        go_wp2_with fail
        go_ret
        exact ⟨by rw [HE.out]; rfl, HB.out⟩
end Go.Proofs.Ytkmndllomheegaa
