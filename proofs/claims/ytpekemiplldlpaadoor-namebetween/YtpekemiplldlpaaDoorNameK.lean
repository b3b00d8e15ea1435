/-
  The document's Show: what it answers.
-/
import Derived.Test.YtpekemiplldlpaaDoorNameJ
namespace Go.Proofs.YtpekemiplldlpaaDoor
set_option linter.unusedVariables false
set_option linter.unusedSimpArgs false
open Go.RowKit

theorem rhexd_any (n : Nat) (w : World) (hn : n ≤ 1114111) :
    Calls Tryd.prog 27 #[.int .i64 n] w fun e w' => e = .returned (.string (strOfNums (hexd n))) ∧ Below w.heap.size w w' := rhex_any 7 n w (by omega) (by decide)
theorem hexd_len (n : Nat) : (hexd n).length ≤ 8 := hexF_len 8 n

set_option maxHeartbeats 2000000 in
theorem rshow_any (l : List Int) (w : World) (hz : Nums.Bytes l) (hm : l.length ≤ 1000000) :
    Calls Tryd.prog 21 #[.string (strOfNums l)] w fun e w' => e = .returned (.string (strOfNums (seen l))) ∧ Below w.heap.size w w' := by
  have HSL := hide (seen_length hz)
  have HOF := hide rof_any
  go_enter Tryd.func21, Tryd.ntmps21
  go_wp2
  go_loopw [0, 3] (fun s o wr => ∃ (m q : List Int), Nums.Bytes m ∧ m.length ≤ l.length ∧ s = .string (strOfNums m) ∧ o = .string (strOfNums q) ∧ Below w.heap.size w wr ∧ q ++ seen m = seen l) (fun s _ _ => strLen s)
  case atStart => exact ⟨l, [], hz, Nat.le_refl _, rfl, rfl, Below.refl _ _, rfl⟩
  case round =>
    obtain ⟨m, q, hmz, hml, rfl, rfl, hb, hacc⟩ := hrel
    have HB := hide hb
    have HA := hide hacc
    clear hb hacc
    have hsz := size_str m
    have hsq := size_str q
    have hql : q.length ≤ 10000000 := by
      have e := congrArg List.length HA.out
      have := HSL.out
      simp at e
      omega
    by_cases hp : m = []
    · subst hp
      have HF : Hid (strOfNums q = strOfNums (seen l)) := by
        show _ = _
        rw [← HA.out, seen_nil, List.append_nil]
      generalize strOfNums q = Q at *
      go_wp2
      go_ret
      exact ⟨by rw [← HF.out]; rfl, HB.out⟩
    · obtain ⟨h1, h2, h3, h4⟩ := dec_width hmz hp
      have HF := hide (first_any m wr hmz (by omega) (by omega))
      have HRest := hide (str_rest m (dec m).2)
      have HN : Hid ((q ++ shownR (dec m).1) ++ seen (m.drop (dec m).2) = seen l) := by
        show _ = _
        rw [List.append_assoc, ← seen_cons hmz hp]
        exact HA.out
      have hlp : 0 < m.length := by omega
      have HO := hide (HOF.out ((dec m).1 : Int))
      cases ho : ofR (dec m).1 with
      | true =>
        have HApp : Hid (strOfNums q ++ (strOfNums m).extract 0 (dec m).2 = strOfNums (q ++ shownR (dec m).1)) := by
          show _ = _
          unfold shownR
          rw [if_pos ho, (enc_dec hmz hp ho).1, str_head, str_append]
        rw [ho] at HO
        clear ho
        generalize hwd : (dec m).2 = wd at *
        generalize hr : (dec m).1 = r at *
        generalize hS : strOfNums m = S at *
        generalize hQ : strOfNums q = Q at *
        clear hS hwd hr h3 hQ
        have hlen : (0 : Int) < (S.size : Int) := by omega
        have hw2 : (wd : Int) ≤ (S.size : Int) := by omega
        go_wp2_with fail
        refine HF.out.mono ?_
        rintro e w1 ⟨rfl, hw1⟩
        have HB1 := hide (HB.out.trans (hw1.mono HB.out.size))
        clear hw1
        go_wp2_with fail
        refine (HO.out w1).mono ?_
        rintro e w2 ⟨rfl, hw⟩
        obtain rfl := hw.symm
        go_wp2_with fail
        go_roundw
        case rel =>
          refine ⟨m.drop wd, q ++ shownR r, bytes_dropw hmz _, by simp; omega, ?_, ?_, HB1.out, HN.out⟩
          · rw [← HRest.out, hsz]
          · rw [← HApp.out]
        case measure =>
          simp [strLen]
          omega
      | false =>
        have HH := hide (fun W => rhexd_any (dec m).1 W h3)
        have HApp : Hid (((strOfNums q ++ (⟨#[60]⟩ : ByteArray)) ++ strOfNums (hexd (dec m).1)) ++ (⟨#[62]⟩ : ByteArray) = strOfNums (q ++ shownR (dec m).1)) := by
          show _ = _
          unfold shownR
          rw [if_neg (by rw [ho]; decide)]
          rw [show (⟨#[60]⟩ : ByteArray) = strOfNums [60] from rfl, show (⟨#[62]⟩ : ByteArray) = strOfNums [62] from rfl, str_append, str_append, str_append]
          congr 1
          simp
        have hsx := size_str (hexd (dec m).1)
        have hxl := hexd_len (dec m).1
        rw [ho] at HO
        clear ho
        generalize hwd : (dec m).2 = wd at *
        generalize hr : (dec m).1 = r at *
        generalize hS : strOfNums m = S at *
        generalize hQ : strOfNums q = Q at *
        generalize hX : strOfNums (hexd r) = X at *
        clear hS hwd hr h3 hQ hX
        have hlen : (0 : Int) < (S.size : Int) := by omega
        have hw2 : (wd : Int) ≤ (S.size : Int) := by omega
        go_wp2_with fail
        refine HF.out.mono ?_
        rintro e w1 ⟨rfl, hw1⟩
        have HB1 := hide (HB.out.trans (hw1.mono HB.out.size))
        clear hw1
        go_wp2_with fail
        refine (HO.out w1).mono ?_
        rintro e w2 ⟨rfl, hw⟩
        obtain rfl := hw.symm
        go_wp2_with fail
        refine (HH.out w1).mono ?_
        rintro e w2 ⟨rfl, hw2'⟩
        have HB2 := hide (HB1.out.trans (hw2'.mono HB1.out.size))
        clear hw2'
        go_wp2_with fail
        go_roundw
        case rel =>
          refine ⟨m.drop wd, q ++ shownR r, bytes_dropw hmz _, by simp; omega, ?_, ?_, HB2.out, HN.out⟩
          · rw [← HRest.out, hsz]
          · rw [← HApp.out]
        case measure =>
          simp [strLen]
          omega
end Go.Proofs.YtpekemiplldlpaaDoor
