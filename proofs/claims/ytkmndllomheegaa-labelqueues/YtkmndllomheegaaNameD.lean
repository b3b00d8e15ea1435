/-
  The document's Runes: what it answers.
-/
import Derived.Test.YtkmndllomheegaaNameB
import Derived.Test.YtkmndllomheegaaNameC
namespace Go.Proofs.Ytkmndllomheegaa
set_option linter.unusedVariables false
set_option linter.unusedSimpArgs false
open Go.RowKit

/-- the rest of a text, as the walk has it. -/
theorem str_rest (l : List Int) (n : Nat) : (strOfNums l).extract n (strOfNums l).size = strOfNums (l.drop n) := by
  rw [str_cut, size_str, List.take_of_length_le (by simp)]
theorem str_head (l : List Int) (n : Nat) : (strOfNums l).extract 0 n = strOfNums (l.take n) := by
  rw [str_cut]; rfl

set_option maxHeartbeats 1000000 in
theorem rrunes_any (l : List Int) (w : World) (hz : Nums.Bytes l) (hm : l.length ≤ 1000000) :
    Calls Try.prog 40 #[.string (strOfNums l)] w fun e w' => ∃ a cap, e = .returned (.slice a (runes l).length cap) ∧ (runes l).length ≤ cap ∧ cap ≤ maxLen ∧ Row .i64 w' a (runes l).length (runeNums (runes l)) ∧ Below w.heap.size w w' := by
  obtain ⟨i0, hi, hz0, hz1, hz2⟩ := info_parts info_i64
  have HRL := hide (runes_length hz)
  go_enter Try.func40, Try.ntmps40
  go_wp2
  go_loopw [0, 3] (fun s v wr => ∃ (m : List Int) (acc : List Nat), Nums.Bytes m ∧ m.length ≤ l.length ∧ s = .string (strOfNums m) ∧ Below w.heap.size w wr ∧ wr.ownsRow w.heap.size 3 1 v acc.length ((runeNums acc).map (Value.int .i64)) ∧ acc ++ runes m = runes l) (fun s _ _ => strLen s)
  case atStart => exact ⟨l, [], hz, Nat.le_refl _, rfl, Below.refl _ _, World.ownsRow_nil _ _ _ _, rfl⟩
  case round =>
    obtain ⟨m, acc, hmz, hml, rfl, hb, hown, hacc⟩ := hrel
    have HB := hide hb
    have HA := hide hacc
    have HO := hide hown
    clear hb hacc hown
    have hsz := size_str m
    by_cases hp : m = []
    · subst hp
      have e1 : acc = runes l := by
        have := HA.out
        rw [runes_nil, List.append_nil] at this
        exact this
      subst e1
      obtain ⟨a, cap, rfl, hle, hmax, _, hrow⟩ := row_of_own HO.out
      have HRow := hide hrow
      clear hrow
      go_wp2
      go_ret
      exact ⟨a, cap, rfl, hle, hmax, HRow.out, HB.out⟩
    · obtain ⟨h1, h2, h3, h4⟩ := dec_width hmz hp
      have HR := hide (runes_cons hmz hp)
      have HF := hide (first_any m wr hmz (by omega) (by omega))
      have HRest := hide (str_rest m (dec m).2)
      have hlp : 0 < m.length := by omega
      have HAL : Hid (acc.length + 1 ≤ l.length) := by
        show _ ≤ _
        have e := congrArg List.length HA.out
        rw [HR.out] at e
        have := HRL.out
        simp at e
        omega
      have hal := HAL.out
      generalize hwd : (dec m).2 = wd at *
      generalize hr : (dec m).1 = r at *
      generalize hS : strOfNums m = S at *
      have HS := hide hS
      clear hS hwd hr h3
      have hlen : (0 : Int) < (S.size : Int) := by omega
      have hw2 : (wd : Int) ≤ (S.size : Int) := by omega
      go_wp2_with fail
      refine HF.out.mono ?_
      rintro e w1 ⟨rfl, hw1⟩
      have HB1 := hide hw1
      have HO1 := hide (own_kept HO.out hw1)
      have HSZ : Hid (w.heap.size ≤ w1.heap.size) := Nat.le_trans HB.out.size hw1.size
      clear hw1
      go_wp2_with (at_builtin; refine wpList_append_own _ rfl _ _ 34 rfl w.heap.size 3 i0 (.int .i64 0) 1 8 Try.underlying34 hi hz0 hz1 hz2 rfl (by decide) _ _ _ rfl (HO1.out.alloc _) ⟨w1.heap.size, 0, none⟩ 1 1 [.int .i64 r] rfl rfl ?c1 ?c2 ?c3 ?c4 ?c5 ?_)
      case c1 =>
        intro j u hj
        match j, hj with
        | 0, hj => simp at hj; subst hj; simp [Addr.add]
      case c2 => intro u hu; simp at hu; subst hu; rfl
      case c3 => unfold maxLen; omega
      case c4 => omega
      case c5 => have := HSZ.out; simp; omega
      intro v' w2 hown' hgrow _
      have HBQ : Hid (Below w.heap.size w w2) := own_below (HO1.out.alloc _) hgrow (by have := HSZ.out; simp; omega) ((HB.out.trans (HB1.out.mono HB.out.size)).alloc HSZ.out _) (Nat.le_refl _)
      have HON := hide hown'
      clear hown' hgrow
      go_wp2
      go_roundw
      case rel =>
        refine ⟨m.drop wd, acc ++ [r], bytes_dropw hmz _, by simp; omega, ?_, HBQ.out, ?_, ?_⟩
        · rw [← HRest.out, hsz]
        · have := HON.out
          rw [runeNums_snoc, List.map_append, List.length_append]
          exact this
        · rw [← HA.out, HR.out]; simp
      case measure =>
        simp [strLen]
        omega
end Go.Proofs.Ytkmndllomheegaa
