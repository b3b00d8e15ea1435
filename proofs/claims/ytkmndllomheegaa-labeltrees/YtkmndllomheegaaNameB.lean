/-
  The document's First: a text's first rune.
-/
import Derived.Test.YtkmndllomheegaaNameA
namespace Go.Proofs.Ytkmndllomheegaa
set_option linter.unusedVariables false
set_option linter.unusedSimpArgs false
open Go.RowKit

theorem fol_true {l : List Int} {i : Nat} {lo hi : Int} (h : fol l i lo hi = true) : i < l.length ∧ lo ≤ l.getD i 0 ∧ l.getD i 0 ≤ hi := by
  simpa [fol] using h
theorem fol_false {l : List Int} {i : Nat} {lo hi : Int} (h : fol l i lo hi = false) : ¬ (i < l.length ∧ lo ≤ l.getD i 0 ∧ l.getD i 0 ≤ hi) := by
  intro h'
  have : fol l i lo hi = true := by unfold fol; exact decide_eq_true h'
  rw [h] at this
  cases this

/-- both numbers of an answer, as the walk has them. -/
theorem both_of {l : List Int} {r n : Nat} (h : dec l = (r, n)) : ((dec l).1 : Int) = (r : Int) ∧ ((dec l).2 : Int) = (n : Int) := by rw [h]; exact ⟨rfl, rfl⟩
theorem bad_of {l : List Int} (h : dec l = (65533, 1)) : ((dec l).1 : Int) = 65533 ∧ ((dec l).2 : Int) = 1 := by
  obtain ⟨h1, h2⟩ := both_of h
  exact ⟨by omega, by omega⟩

set_option maxHeartbeats 4000000 in
theorem first_any (l : List Int) (w : World) (hz : Nums.Bytes l) (h0 : 0 < l.length) (hm : l.length ≤ 1000000) :
    Calls Try.prog 54 #[.string (strOfNums l)] w fun e w' => e = .returned (.tuple #[.int .i64 (dec l).1, .int .i64 (dec l).2]) ∧ Below w.heap.size w w' := by
  have hsz := size_str l
  have HF := hide (fun i (hi : i ≤ 10) lo hi' W => follows_any l i lo hi' W hz hm hi)
  have hgb : ∀ i, ∃ b : Nat, b < 256 ∧ l.getD i 0 = b := fun i => by
    by_cases h : i < l.length
    · have := hz _ (List.getElem_mem h)
      exact ⟨(l[i]).toNat, by omega, by simp [h]; omega⟩
    · exact ⟨0, by decide, by simp; rw [List.getElem?_eq_none (by omega)]; rfl⟩
  obtain ⟨b0, hb0, e0⟩ := hgb 0
  obtain ⟨b1, hb1, e1⟩ := hgb 1
  obtain ⟨b2, hb2, e2⟩ := hgb 2
  obtain ⟨b3, hb3, e3⟩ := hgb 3
  have hS : ∀ i (b : Nat), l.getD i 0 = (b : Int) → (hs : i < (strOfNums l).size) → (((strOfNums l)[i]'hs).toNat : Int) = b := fun i b e hs => by
    have hi : i < l.length := by rw [← size_str]; exact hs
    rw [str_at l i hi hz hs, ← e]
    simp [hi]
  have s0 := hS 0 b0 e0
  have HD : Hid (dec l = Lib.decodeN l.length b0 b1 b2 b3) := by show _ = _; unfold dec; rw [e0, e1, e2, e3]; rfl
  have HE1 := hide e1
  have HE2 := hide e2
  have HE3 := hide e3
  have s1 := hS 1 b1 e1
  have s2 := hS 2 b2 e2
  have s3 := hS 3 b3 e3
  clear hgb hS e0 e1 e2 e3
  generalize strOfNums l = S at *
  have t0 := s0 (by omega)
  clear s0
  by_cases c1 : b0 < 128
  · have q1 : (b0 : Int) < 128 := by omega
    have HR := hide (HD.out.trans (dec1 c1))
    clear s1 s2 s3
    go_enter Try.func54, Try.ntmps54
    go_wp2_with fail
    go_ret2
    exact ⟨by rw [HR.out]; rfl, Below.refl _ _⟩
  · have q1 : ¬ (b0 : Int) < 128 := by omega
    by_cases c2 : 194 ≤ b0 ∧ b0 ≤ 223
    · have q2 : (194 : Int) ≤ (b0 : Int) := by omega
      have q3 : (b0 : Int) ≤ 223 := by omega
      have HF1 := hide (HF.out 1 (by decide) 128 191 w)
      rw [show ((1 : Nat) : Int) = 1 from rfl] at HF1
      cases hf : fol l 1 128 191 with
      | true =>
        obtain ⟨hl1, hlo, hhi⟩ := fol_true hf
        rw [HE1.out] at hlo hhi
        have t1 := s1 (by omega)
        have HR := hide (HD.out.trans (dec2 c2 hl1 (by omega)))
        have HV : Hid (((b0 : Int) - 192) * 64 + ((b1 : Int) - 128) = (((b0 - 192) * 64 + (b1 - 128) : Nat) : Int)) := by show _ = _; omega
        have hls : 1 < S.size := by omega
        rw [hf] at HF1
        clear s1 s2 s3 hf
        go_enter Try.func54, Try.ntmps54
        go_wp2_with fail
        refine HF1.out.mono ?_
        rintro e w1 ⟨rfl, hw1⟩
        obtain rfl := hw1.symm
        go_wp2_with fail
        go_ret2
        exact ⟨by rw [HR.out]; exact congrArg (fun x => Ending.returned (.tuple #[.int .i64 x, .int .i64 2])) HV.out, Below.refl _ _⟩
      | false =>
        have hff := fol_false hf
        rw [HE1.out] at hff
        have HR := hide (bad_of (HD.out.trans (dec_bad (by omega) hb0 (by omega) (by omega) (by omega))))
        rw [hf] at HF1
        clear s1 s2 s3 hf hff c1 c2
        go_enter Try.func54, Try.ntmps54
        go_wp2_with fail
        refine HF1.out.mono ?_
        rintro e w1 ⟨rfl, hw1⟩
        obtain rfl := hw1.symm
        go_wp2_with fail
        go_ret2
        refine ⟨?_, Below.refl _ _⟩
        rw [HR.out.1, HR.out.2]
        rfl
    · by_cases c3 : 224 ≤ b0 ∧ b0 ≤ 239
      · have q2 : (194 : Int) ≤ (b0 : Int) := by omega
        have q3 : ¬ (b0 : Int) ≤ 223 := by omega
        have q4 : (224 : Int) ≤ (b0 : Int) := by omega
        have q5 : (b0 : Int) ≤ 239 := by omega
        have q6 : ¬ (240 : Int) ≤ (b0 : Int) := by omega
        obtain ⟨lo, hi, hlh, hcase⟩ : ∃ lo hi : Nat, (lo = (if b0 = 224 then 160 else 128) ∧ hi = (if b0 = 237 then 159 else 191)) ∧ ((b0 = 224 ∧ lo = 160 ∧ hi = 191) ∨ (b0 = 237 ∧ lo = 128 ∧ hi = 159) ∨ ((b0 ≠ 224 ∧ b0 ≠ 237) ∧ lo = 128 ∧ hi = 191)) := by
          refine ⟨_, _, ⟨rfl, rfl⟩, ?_⟩
          by_cases e1 : b0 = 224
          · exact .inl ⟨e1, by rw [if_pos e1], by rw [if_neg (by omega)]⟩
          · by_cases e2 : b0 = 237
            · exact .inr (.inl ⟨e2, by rw [if_neg e1], by rw [if_pos e2]⟩)
            · exact .inr (.inr ⟨⟨e1, e2⟩, by rw [if_neg e1], by rw [if_neg e2]⟩)
        have HF1 := hide (HF.out 1 (by decide) lo hi w)
        have HF2 := hide (HF.out 2 (by decide) 128 191 w)
        have HR : Hid ((fol l 1 lo hi = true ∧ fol l 2 128 191 = true ∧ 2 < l.length ∧ 128 ≤ b1 ∧ b1 ≤ 191 ∧ 128 ≤ b2 ∧ b2 ≤ 191 ∧ dec l = ((b0 - 224) * 4096 + (b1 - 128) * 64 + (b2 - 128), 3)) ∨ (¬ (fol l 1 lo hi = true ∧ fol l 2 128 191 = true) ∧ dec l = (65533, 1))) := by
          show _ ∨ _
          by_cases hb : fol l 1 lo hi = true ∧ fol l 2 128 191 = true
          · obtain ⟨g1, g2⟩ := hb
            obtain ⟨a1, a2, a3⟩ := fol_true g1
            obtain ⟨d1, d2, d3⟩ := fol_true g2
            rw [HE1.out] at a2 a3
            rw [HE2.out] at d2 d3
            refine .inl ⟨g1, g2, d1, ?_, ?_, by omega, by omega, HD.out.trans (dec3 c3 d1 ?_ (by omega))⟩
            · rcases hcase with ⟨_, rfl, rfl⟩ | ⟨_, rfl, rfl⟩ | ⟨_, rfl, rfl⟩ <;> omega
            · rcases hcase with ⟨_, rfl, rfl⟩ | ⟨_, rfl, rfl⟩ | ⟨_, rfl, rfl⟩ <;> omega
            · rw [← hlh.1, ← hlh.2]
              omega
          · refine .inr ⟨hb, HD.out.trans (dec_bad (by omega) hb0 (by omega) ?_ (by omega))⟩
            rintro ⟨_, ⟨k1, k2, k3⟩, k4, k5, k6⟩
            rw [← hlh.1] at k2
            rw [← hlh.2] at k3
            apply hb
            constructor
            · unfold fol
              rw [HE1.out]
              exact decide_eq_true ⟨k1, by omega, by omega⟩
            · unfold fol
              rw [HE2.out]
              exact decide_eq_true ⟨k4, by omega, by omega⟩
        clear hlh
        have hdraw : True := trivial
        generalize fol l 1 lo hi = o1 at *
        generalize fol l 2 128 191 = o2 at *
        rcases HR.out with ⟨rfl, rfl, hl2, x1, x2, x3, x4, hd⟩ | ⟨hno, hd⟩
        · have HR2 := hide (both_of hd)
          have t1 := s1 (by omega)
          have t2 := s2 (by omega)
          have hls1 : 1 < S.size := by omega
          have hls2 : 2 < S.size := by omega
          have HV : Hid (((b0 : Int) - 224) * 4096 + ((b1 : Int) - 128) * 64 + ((b2 : Int) - 128) = (((b0 - 224) * 4096 + (b1 - 128) * 64 + (b2 - 128) : Nat) : Int)) := by show _ = _; omega
          clear s1 s2 s3 hd
          have hcase' : (((b0 : Int) == 224) = true ∧ ((b0 : Int) == 237) = false ∧ lo = 160 ∧ hi = 191) ∨ (((b0 : Int) == 224) = false ∧ ((b0 : Int) == 237) = true ∧ lo = 128 ∧ hi = 159) ∨ (((b0 : Int) == 224) = false ∧ ((b0 : Int) == 237) = false ∧ lo = 128 ∧ hi = 191) := by
            simp only [beq_iff_eq, beq_eq_false_iff_ne]
            omega
          clear hcase
          rcases hcase' with ⟨m1, m2, rfl, rfl⟩ | ⟨m1, m2, rfl, rfl⟩ | ⟨m1, m2, rfl, rfl⟩
          all_goals
            go_enter Try.func54, Try.ntmps54
            go_wp2_with fail
            refine HF1.out.mono ?_
            rintro e w1 ⟨rfl, hw1⟩
            obtain rfl := hw1.symm
            go_wp2_with fail
            refine HF2.out.mono ?_
            rintro e w1 ⟨rfl, hw1⟩
            obtain rfl := hw1.symm
            go_wp2_with fail
            go_quiet (fail)
            go_wp2_with fail
            go_ret2
            refine ⟨?_, (Below.refl _ _).trans ⟨rfl, rfl, rfl, Nat.le_refl _, fun _ _ => rfl⟩⟩
            rw [HR2.out.1, HR2.out.2, ← HV.out]
            rfl
        · have HR2 := hide (bad_of hd)
          clear s1 s2 s3 hd c1 c2
          have hcase' : (((b0 : Int) == 224) = true ∧ ((b0 : Int) == 237) = false ∧ lo = 160 ∧ hi = 191) ∨ (((b0 : Int) == 224) = false ∧ ((b0 : Int) == 237) = true ∧ lo = 128 ∧ hi = 159) ∨ (((b0 : Int) == 224) = false ∧ ((b0 : Int) == 237) = false ∧ lo = 128 ∧ hi = 191) := by
            simp only [beq_iff_eq, beq_eq_false_iff_ne]
            omega
          clear hcase
          rcases hcase' with ⟨m1, m2, rfl, rfl⟩ | ⟨m1, m2, rfl, rfl⟩ | ⟨m1, m2, rfl, rfl⟩
          all_goals
            cases o1
            · go_enter Try.func54, Try.ntmps54
              go_wp2_with fail
              refine HF1.out.mono ?_
              rintro e w1 ⟨rfl, hw1⟩
              obtain rfl := hw1.symm
              go_wp2_with fail
              go_ret2
              refine ⟨?_, Below.refl _ _⟩
              rw [HR2.out.1, HR2.out.2]
              rfl
            · have ho2 : o2 = false := by cases o2 <;> simp_all
              subst ho2
              go_enter Try.func54, Try.ntmps54
              go_wp2_with fail
              refine HF1.out.mono ?_
              rintro e w1 ⟨rfl, hw1⟩
              obtain rfl := hw1.symm
              go_wp2_with fail
              refine HF2.out.mono ?_
              rintro e w1 ⟨rfl, hw1⟩
              obtain rfl := hw1.symm
              go_wp2_with fail
              go_ret2
              refine ⟨?_, Below.refl _ _⟩
              rw [HR2.out.1, HR2.out.2]
              rfl
      · by_cases c4 : 240 ≤ b0 ∧ b0 ≤ 244
        · have q2 : (194 : Int) ≤ (b0 : Int) := by omega
          have q3 : ¬ (b0 : Int) ≤ 223 := by omega
          have q4 : (224 : Int) ≤ (b0 : Int) := by omega
          have q4' : ¬ (b0 : Int) ≤ 239 := by omega
          have q5 : (240 : Int) ≤ (b0 : Int) := by omega
          have q6 : (b0 : Int) ≤ 244 := by omega
          obtain ⟨lo, hi, hlh, hcase⟩ : ∃ lo hi : Nat, (lo = (if b0 = 240 then 144 else 128) ∧ hi = (if b0 = 244 then 143 else 191)) ∧ ((b0 = 240 ∧ lo = 144 ∧ hi = 191) ∨ (b0 = 244 ∧ lo = 128 ∧ hi = 143) ∨ ((b0 ≠ 240 ∧ b0 ≠ 244) ∧ lo = 128 ∧ hi = 191)) := by
            refine ⟨_, _, ⟨rfl, rfl⟩, ?_⟩
            by_cases e1 : b0 = 240
            · exact .inl ⟨e1, by rw [if_pos e1], by rw [if_neg (by omega)]⟩
            · by_cases e2 : b0 = 244
              · exact .inr (.inl ⟨e2, by rw [if_neg e1], by rw [if_pos e2]⟩)
              · exact .inr (.inr ⟨⟨e1, e2⟩, by rw [if_neg e1], by rw [if_neg e2]⟩)
          have HF1 := hide (HF.out 1 (by decide) lo hi w)
          have HF2 := hide (HF.out 2 (by decide) 128 191 w)
          have HF3 := hide (HF.out 3 (by decide) 128 191 w)
          have HR : Hid ((fol l 1 lo hi = true ∧ fol l 2 128 191 = true ∧ fol l 3 128 191 = true ∧ 3 < l.length ∧ 128 ≤ b1 ∧ b1 ≤ 191 ∧ 128 ≤ b2 ∧ b2 ≤ 191 ∧ 128 ≤ b3 ∧ b3 ≤ 191 ∧ dec l = ((b0 - 240) * 262144 + (b1 - 128) * 4096 + (b2 - 128) * 64 + (b3 - 128), 4)) ∨ (¬ (fol l 1 lo hi = true ∧ fol l 2 128 191 = true ∧ fol l 3 128 191 = true) ∧ dec l = (65533, 1))) := by
            show _ ∨ _
            by_cases hb : fol l 1 lo hi = true ∧ fol l 2 128 191 = true ∧ fol l 3 128 191 = true
            · obtain ⟨g1, g2, g3⟩ := hb
              obtain ⟨a1, a2, a3⟩ := fol_true g1
              obtain ⟨d1, d2, d3⟩ := fol_true g2
              obtain ⟨f1, f2, f3⟩ := fol_true g3
              rw [HE1.out] at a2 a3
              rw [HE2.out] at d2 d3
              rw [HE3.out] at f2 f3
              refine .inl ⟨g1, g2, g3, f1, ?_, ?_, by omega, by omega, by omega, by omega, HD.out.trans (dec4 c4 f1 ?_ (by omega) (by omega))⟩
              · rcases hcase with ⟨_, rfl, rfl⟩ | ⟨_, rfl, rfl⟩ | ⟨_, rfl, rfl⟩ <;> omega
              · rcases hcase with ⟨_, rfl, rfl⟩ | ⟨_, rfl, rfl⟩ | ⟨_, rfl, rfl⟩ <;> omega
              · rw [← hlh.1, ← hlh.2]
                omega
            · refine .inr ⟨hb, HD.out.trans (dec_bad (by omega) hb0 (by omega) (by omega) ?_)⟩
              rintro ⟨_, ⟨k1, k2, k3⟩, ⟨k4, k5, k6⟩, k7, k8, k9⟩
              rw [← hlh.1] at k2
              rw [← hlh.2] at k3
              apply hb
              refine ⟨?_, ?_, ?_⟩
              · unfold fol
                rw [HE1.out]
                exact decide_eq_true ⟨k1, by omega, by omega⟩
              · unfold fol
                rw [HE2.out]
                exact decide_eq_true ⟨k4, by omega, by omega⟩
              · unfold fol
                rw [HE3.out]
                exact decide_eq_true ⟨k7, by omega, by omega⟩
          clear hlh
          generalize fol l 1 lo hi = o1 at *
          generalize fol l 2 128 191 = o2 at *
          generalize fol l 3 128 191 = o3 at *
          have hcase' : (((b0 : Int) == 240) = true ∧ ((b0 : Int) == 244) = false ∧ lo = 144 ∧ hi = 191) ∨ (((b0 : Int) == 240) = false ∧ ((b0 : Int) == 244) = true ∧ lo = 128 ∧ hi = 143) ∨ (((b0 : Int) == 240) = false ∧ ((b0 : Int) == 244) = false ∧ lo = 128 ∧ hi = 191) := by
            simp only [beq_iff_eq, beq_eq_false_iff_ne]
            omega
          clear hcase
          rcases HR.out with ⟨rfl, rfl, rfl, hl3, x1, x2, x3, x4, x5, x6, hd⟩ | ⟨hno, hd⟩
          · have HR2 := hide (both_of hd)
            have t1 := s1 (by omega)
            have t2 := s2 (by omega)
            have t3 := s3 (by omega)
            have hls1 : 1 < S.size := by omega
            have hls2 : 2 < S.size := by omega
            have hls3 : 3 < S.size := by omega
            have HV : Hid (((b0 : Int) - 240) * 262144 + ((b1 : Int) - 128) * 4096 + ((b2 : Int) - 128) * 64 + ((b3 : Int) - 128) = (((b0 - 240) * 262144 + (b1 - 128) * 4096 + (b2 - 128) * 64 + (b3 - 128) : Nat) : Int)) := by show _ = _; omega
            clear s1 s2 s3 hd c1 c2 c3
            rcases hcase' with ⟨m1, m2, rfl, rfl⟩ | ⟨m1, m2, rfl, rfl⟩ | ⟨m1, m2, rfl, rfl⟩
            all_goals
              go_enter Try.func54, Try.ntmps54
              go_wp2_with fail
              refine HF1.out.mono ?_
              rintro e w1 ⟨rfl, hw1⟩
              obtain rfl := hw1.symm
              go_wp2_with fail
              refine HF2.out.mono ?_
              rintro e w1 ⟨rfl, hw1⟩
              obtain rfl := hw1.symm
              go_wp2_with fail
              refine HF3.out.mono ?_
              rintro e w1 ⟨rfl, hw1⟩
              obtain rfl := hw1.symm
              go_wp2_with fail
              go_quiet (fail)
              go_wp2_with fail
              go_ret2
              refine ⟨?_, (Below.refl _ _).trans ⟨rfl, rfl, rfl, Nat.le_refl _, fun _ _ => rfl⟩⟩
              rw [HR2.out.1, HR2.out.2, ← HV.out]
              rfl
          · have HR2 := hide (bad_of hd)
            clear s1 s2 s3 hd c1 c2 c3
            rcases hcase' with ⟨m1, m2, rfl, rfl⟩ | ⟨m1, m2, rfl, rfl⟩ | ⟨m1, m2, rfl, rfl⟩
            all_goals
              cases o1
              · go_enter Try.func54, Try.ntmps54
                go_wp2_with fail
                refine HF1.out.mono ?_
                rintro e w1 ⟨rfl, hw1⟩
                obtain rfl := hw1.symm
                go_wp2_with fail
                go_ret2
                refine ⟨?_, Below.refl _ _⟩
                rw [HR2.out.1, HR2.out.2]
                rfl
              · cases o2
                · go_enter Try.func54, Try.ntmps54
                  go_wp2_with fail
                  refine HF1.out.mono ?_
                  rintro e w1 ⟨rfl, hw1⟩
                  obtain rfl := hw1.symm
                  go_wp2_with fail
                  refine HF2.out.mono ?_
                  rintro e w1 ⟨rfl, hw1⟩
                  obtain rfl := hw1.symm
                  go_wp2_with fail
                  go_ret2
                  refine ⟨?_, Below.refl _ _⟩
                  rw [HR2.out.1, HR2.out.2]
                  rfl
                · have ho3 : o3 = false := by cases o3 <;> simp_all
                  subst ho3
                  go_enter Try.func54, Try.ntmps54
                  go_wp2_with fail
                  refine HF1.out.mono ?_
                  rintro e w1 ⟨rfl, hw1⟩
                  obtain rfl := hw1.symm
                  go_wp2_with fail
                  refine HF2.out.mono ?_
                  rintro e w1 ⟨rfl, hw1⟩
                  obtain rfl := hw1.symm
                  go_wp2_with fail
                  refine HF3.out.mono ?_
                  rintro e w1 ⟨rfl, hw1⟩
                  obtain rfl := hw1.symm
                  go_wp2_with fail
                  go_ret2
                  refine ⟨?_, Below.refl _ _⟩
                  rw [HR2.out.1, HR2.out.2]
                  rfl
        · have HR2 := hide (bad_of (HD.out.trans (dec_bad (by omega) hb0 (by omega) (by omega) (by omega))))
          have hside : (b0 : Int) < 194 ∨ (245 : Int) ≤ (b0 : Int) := by omega
          clear s1 s2 s3 c1 c2 c3 c4
          rcases hside with qs | qs
          · have q2 : ¬ (194 : Int) ≤ (b0 : Int) := by omega
            have q4 : ¬ (224 : Int) ≤ (b0 : Int) := by omega
            have q5 : ¬ (240 : Int) ≤ (b0 : Int) := by omega
            clear qs
            go_enter Try.func54, Try.ntmps54
            go_wp2_with fail
            go_ret2
            refine ⟨?_, Below.refl _ _⟩
            rw [HR2.out.1, HR2.out.2]
            rfl
          · have q2 : (194 : Int) ≤ (b0 : Int) := by omega
            have q3 : ¬ (b0 : Int) ≤ 223 := by omega
            have q4 : (224 : Int) ≤ (b0 : Int) := by omega
            have q4' : ¬ (b0 : Int) ≤ 239 := by omega
            have q5 : (240 : Int) ≤ (b0 : Int) := by omega
            have q6 : ¬ (b0 : Int) ≤ 244 := by omega
            clear qs
            go_enter Try.func54, Try.ntmps54
            go_wp2_with fail
            go_ret2
            refine ⟨?_, Below.refl _ _⟩
            rw [HR2.out.1, HR2.out.2]
            rfl
end Go.Proofs.Ytkmndllomheegaa
