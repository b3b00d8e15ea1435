/-
  The walks of the statements on digit (DigitHandles, DigitApart).
-/
import Derived.Test.YtinfjhfopmglaaaDoorDigLaws
namespace Go.Proofs.YtinfjhfopmglaaaDoor
set_option linter.unusedVariables false
set_option linter.unusedSimpArgs false
open Go.RowKit

theorem htext_length (a b : Int) : (Dig.htext a b).length ≤ 41 := by
  have h1 := Dig.text_length (n := a)
  have h2 := Dig.text_length (n := b)
  unfold Dig.htext
  split
  · simp
  · simp; omega

set_option maxHeartbeats 1000000 in
/-- DigitHandles. -/
theorem handles_walk (a b : Int) (w : World) (ht : Tabs w) (hwa : (Lit.int .i64 a).wf = true) (hwb : (Lit.int .i64 b).wf = true) :
    Calls Tryd.prog 5 #[.agg #[.int .i64 a, .int .i64 b]] w fun e w' => e = .returned (.bool true) ∧ Below w.heap.size w w' := by
  have ha : Dig.fits a := bd_i64 hwa
  have hb : Dig.fits b := bd_i64 hwb
  have HS := hide (fun W (hW : Tabs W) => show_handle_any a b W hW ha hb)
  have HR := hide (fun W (hW : Tabs W) => read_handle_any (Dig.htext a b) W hW (Dig.htext_bytes a b) (Nat.le_trans (htext_length a b) (by decide)))
  have HD := hide (fun W => ref_handle_any a b W ha hb)
  clear hwa hwb
  by_cases hneg : a < 0 ∨ b < 0
  · have e1 : Dig.hread (Dig.htext a b) = ((0, 0), false) := by rw [Dig.htext_neg hneg]; rfl
    rw [e1] at HR
    have e2 : strOfNums (Dig.htext a b) = ⟨#[]⟩ := by rw [Dig.htext_neg hneg]; rfl
    rw [e2] at HS HR
    clear e1 e2 HD ha hb
    have hneg' : a < 0 ∨ (¬ a < 0 ∧ b < 0) := by omega
    clear hneg
    rcases hneg' with h1 | ⟨h1, h2⟩
    all_goals
      have HTB := hide ht
      clear ht
      go_enter Tryd.func5, Tryd.ntmps5
      go_wp2_with fail
      refine (awake_any _ (HTB.out.below ((Below.refl _ _).alloc (Nat.le_refl _) _))).mono ?_
      rintro e w1 ⟨rfl, hb1⟩
      have c0 : w1.cell? ⟨w.heap.size, 0, none⟩ = some (.int .i64 a) := (hb1.cell (p := ⟨w.heap.size, 0, none⟩) (by simp)).trans (by simp)
      have c1 : w1.cell? ⟨w.heap.size, 1, none⟩ = some (.int .i64 b) := (hb1.cell (p := ⟨w.heap.size, 1, none⟩) (by simp)).trans (by simp)
      have hg1 : w.heap.size < w1.heap.size := Nat.lt_of_lt_of_le (by simp) hb1.size
      have HB1 : Hid (Below w.heap.size w w1) := ((Below.refl _ _).alloc (Nat.le_refl _) _).trans (hb1.mono (by simp))
      clear hb1
      go_wp2_with fail
      refine (HS.out w1 (HTB.out.below HB1.out)).mono ?_
      rintro e w2 ⟨rfl, hb2⟩
      have d0 := (hb2.cell (p := ⟨w.heap.size, 0, none⟩) hg1).trans c0
      have d1 := (hb2.cell (p := ⟨w.heap.size, 1, none⟩) hg1).trans c1
      have hg2 : w.heap.size < w2.heap.size := Nat.lt_of_lt_of_le hg1 hb2.size
      have HB2 := hide (HB1.out.trans (hb2.mono HB1.out.size))
      clear hb2 c0 c1
      go_wp2_with fail
      refine (HR.out w2 (HTB.out.below HB2.out)).mono ?_
      rintro e w3 ⟨rfl, hb3⟩
      have c0 := (hb3.cell (p := ⟨w.heap.size, 0, none⟩) hg2).trans d0
      have c1 := (hb3.cell (p := ⟨w.heap.size, 1, none⟩) hg2).trans d1
      have hg3 : w.heap.size < w3.heap.size := Nat.lt_of_lt_of_le hg2 hb3.size
      have HB3 := hide (HB2.out.trans (hb3.mono HB2.out.size))
      clear hb3 d0 d1
      go_wp2_with fail
      go_ret
      exact ⟨rfl, HB3.out.alloc HB3.out.size _⟩
  · have h1 : ¬ a < 0 := fun h => hneg (.inl h)
    have h2 : ¬ b < 0 := fun h => hneg (.inr h)
    rw [Dig.hread_text (by omega) (by omega) ha hb] at HR
    generalize strOfNums (Dig.htext a b) = S at *
    clear hneg ha hb
    have HTB := hide ht
    clear ht
    go_enter Tryd.func5, Tryd.ntmps5
    go_wp2_with fail
    refine (awake_any _ (HTB.out.below ((Below.refl _ _).alloc (Nat.le_refl _) _))).mono ?_
    rintro e w1 ⟨rfl, hb1⟩
    have c0 : w1.cell? ⟨w.heap.size, 0, none⟩ = some (.int .i64 a) := (hb1.cell (p := ⟨w.heap.size, 0, none⟩) (by simp)).trans (by simp)
    have c1 : w1.cell? ⟨w.heap.size, 1, none⟩ = some (.int .i64 b) := (hb1.cell (p := ⟨w.heap.size, 1, none⟩) (by simp)).trans (by simp)
    have hg1 : w.heap.size < w1.heap.size := Nat.lt_of_lt_of_le (by simp) hb1.size
    have HB1 : Hid (Below w.heap.size w w1) := ((Below.refl _ _).alloc (Nat.le_refl _) _).trans (hb1.mono (by simp))
    clear hb1
    go_wp2_with fail
    refine (HS.out w1 (HTB.out.below HB1.out)).mono ?_
    rintro e w2 ⟨rfl, hb2⟩
    have d0 := (hb2.cell (p := ⟨w.heap.size, 0, none⟩) hg1).trans c0
    have d1 := (hb2.cell (p := ⟨w.heap.size, 1, none⟩) hg1).trans c1
    have hg2 : w.heap.size < w2.heap.size := Nat.lt_of_lt_of_le hg1 hb2.size
    have HB2 := hide (HB1.out.trans (hb2.mono HB1.out.size))
    clear hb2 c0 c1
    go_wp2_with fail
    refine (HR.out w2 (HTB.out.below HB2.out)).mono ?_
    rintro e w3 ⟨rfl, hb3⟩
    have c0 := (hb3.cell (p := ⟨w.heap.size, 0, none⟩) hg2).trans d0
    have c1 := (hb3.cell (p := ⟨w.heap.size, 1, none⟩) hg2).trans d1
    have hg3 : w.heap.size < w3.heap.size := Nat.lt_of_lt_of_le hg2 hb3.size
    have HB3 := hide (HB2.out.trans (hb3.mono HB2.out.size))
    clear hb3 d0 d1
    obtain ⟨W, hW⟩ : ∃ W, W = w3.alloc (.cells #[.int .i64 a, .int .i64 b] 29) := ⟨_, rfl⟩
    go_wp2_with fail
    refine (HD.out _).mono ?_
    rintro e w4 ⟨rfl, hb4⟩
    have d0 : w4.cell? ⟨w.heap.size, 0, none⟩ = some (.int .i64 a) := (hb4.cell (p := ⟨w.heap.size, 0, none⟩) (by simp; omega)).trans (((Below.refl w3.heap.size w3).alloc (Nat.le_refl _) _).cell (p := ⟨w.heap.size, 0, none⟩) hg3 |>.trans c0)
    have d1 : w4.cell? ⟨w.heap.size, 1, none⟩ = some (.int .i64 b) := (hb4.cell (p := ⟨w.heap.size, 1, none⟩) (by simp; omega)).trans (((Below.refl w3.heap.size w3).alloc (Nat.le_refl _) _).cell (p := ⟨w.heap.size, 1, none⟩) hg3 |>.trans c1)
    have f0 : w4.cell? ⟨w3.heap.size, 0, none⟩ = some (.int .i64 a) := (hb4.cell (p := ⟨w3.heap.size, 0, none⟩) (by simp)).trans (by simp)
    have f1 : w4.cell? ⟨w3.heap.size, 1, none⟩ = some (.int .i64 b) := (hb4.cell (p := ⟨w3.heap.size, 1, none⟩) (by simp)).trans (by simp)
    have HB4 : Hid (Below w.heap.size w w4) := HB3.out.trans ((((Below.refl _ _).alloc (Nat.le_refl _) _).trans (hb4.mono (by simp))).mono HB3.out.size)
    clear hb4 c0 c1
    go_wp2_with fail
    go_ret
    exact ⟨rfl, HB4.out⟩

theorem bd_u8' {x : Int} (h : (Lit.int .u8 x).wf = true) : 0 ≤ x ∧ x ≤ 255 := bd_u8 h

set_option maxHeartbeats 4000000 in
/-- DigitApart. -/
theorem apart_walk (n m c : Int) (w : World) (ht : Tabs w) (hwn : (Lit.int .i64 n).wf = true) (hwm : (Lit.int .i64 m).wf = true) (hwc : (Lit.int .u8 c).wf = true) :
    Calls Tryd.prog 7 #[.int .i64 n, .int .i64 m, .int .u8 c] w fun e w' => e = .returned (.bool true) ∧ Below w.heap.size w w' := by
  have hn : Dig.fits n := bd_i64 hwn
  have hm : Dig.fits m := bd_i64 hwm
  have hc := bd_u8 hwc
  have HS := hide (fun W (hW : Tabs W) => show_any n W hW hn)
  have HT := hide (fun W (hW : Tabs W) => show_any m W hW hm)
  have hl := Dig.text_length (n := n)
  have HR0 := hide (fun W (hW : Tabs W) => read_any (48 :: Dig.text n) W hW (fun z hz => by rcases List.mem_cons.1 hz with rfl | hz; omega; exact Dig.text_bytes n z hz) (by simp; omega))
  have HR1 := hide (fun W (hW : Tabs W) => read_any (43 :: Dig.text n) W hW (fun z hz => by rcases List.mem_cons.1 hz with rfl | hz; omega; exact Dig.text_bytes n z hz) (by simp; omega))
  rw [Dig.read_nought hn] at HR0
  rw [Dig.read_plus] at HR1
  have hbm : Nums.Bytes (Dig.text n ++ [c]) := Nums.bytes_append (Dig.text_bytes n) (fun z hz => by simp at hz; omega)
  have HRm := hide (fun W (hW : Tabs W) => read_any (Dig.text n ++ [c]) W hW hbm (by simp; omega))
  -- what is read of the longer text
  have HRead : Hid (Dig.read (Dig.text n ++ [c]) = (0, false) ∨ ∃ k, Dig.read (Dig.text n ++ [c]) = (k, true) ∧ k ≠ n ∧ Dig.fits k ∧ Dig.text k = Dig.text n ++ [c]) := by
    show _ ∨ _
    cases hr : Dig.read (Dig.text n ++ [c]) with
    | mk k ok =>
      cases ok with
      | false =>
        left
        unfold Dig.read at hr
        split at hr
        · cases hr
        · exact hr.symm
      | true =>
        right
        obtain ⟨e, hf⟩ := Dig.read_true hr
        refine ⟨k, rfl, ?_, hf, e.symm⟩
        rintro rfl
        have := congrArg List.length e
        simp at this
  have e0 : strOfNums (48 :: Dig.text n) = ⟨#[48]⟩ ++ strOfNums (Dig.text n) := by
    rw [show (⟨#[48]⟩ : ByteArray) = strOfNums [48] from rfl, str_append]; rfl
  have e1 : strOfNums (43 :: Dig.text n) = ⟨#[43]⟩ ++ strOfNums (Dig.text n) := by
    rw [show (⟨#[43]⟩ : ByteArray) = strOfNums [43] from rfl, str_append]; rfl
  have em : strOfNums (Dig.text n ++ [c]) = strOfNums (Dig.text n) ++ strOfNums [c] := (str_append _ _).symm
  rw [e0] at HR0
  rw [e1] at HR1
  rw [em] at HRm
  have s0 := size_str (Dig.text n)
  have s1 := size_str [c]
  have HEq : Hid ((n = m ∧ strOfNums (Dig.text n) = strOfNums (Dig.text m)) ∨ (¬ n = m ∧ ¬ strOfNums (Dig.text n) = strOfNums (Dig.text m))) := by
    show _ ∨ _
    by_cases h : n = m
    · exact .inl ⟨h, by rw [h]⟩
    · exact .inr ⟨h, fun e => h (Dig.text_inj hn hm (str_inj (Dig.text_bytes n) (Dig.text_bytes m) e))⟩
  have hcv := fun wr : World => (conv_bytes 1 (row_of_block (w := wr.alloc (.cells #[.int .u8 c] 5)) (e := 5) (zs := [c]) (heap_alloc_new wr _) rfl) :
    (convert 34 9 (.slice (some ⟨wr.heap.size, 0, none⟩) 1 1)).run Tryd.prog (wr.alloc (.cells #[.int .u8 c] 5)) = .ok (.string (strOfNums [c])) (wr.alloc (.cells #[.int .u8 c] 5)))
  have HShow : Hid (∀ k W, Tabs W → Dig.fits k → Dig.text k = Dig.text n ++ [c] → Calls Tryd.prog 9 #[.int .i64 k] W fun e w' => e = .returned (.string (strOfNums (Dig.text n) ++ strOfNums [c])) ∧ Below W.heap.size W w') := by
    intro k W hW hk ek
    have := show_any k W hW hk
    rwa [ek, em] at this
  clear e0 e1 em hwn hwm hwc hn hm hbm
  have hS20 : (strOfNums (Dig.text n)).size ≤ 20 := by omega
  have hC1 : (strOfNums [c]).size = 1 := s1
  clear s0 s1 hl
  generalize hrd : Dig.read (Dig.text n ++ [c]) = rd at *
  clear hrd
  generalize strOfNums (Dig.text n) = S at *
  generalize strOfNums (Dig.text m) = T at *
  generalize strOfNums [c] = U at *
  have HTB := hide ht
  clear ht
  go_enter Tryd.func7, Tryd.ntmps7
  go_wp2_with fail
  refine (awake_any _ HTB.out).mono ?_
  rintro e w1 ⟨rfl, hb1⟩
  have HB1 := hide hb1
  clear hb1
  go_wp2_with fail
  refine (HS.out w1 (HTB.out.below HB1.out)).mono ?_
  rintro e w2 ⟨rfl, hb2⟩
  have HB2 := hide (HB1.out.trans (hb2.mono HB1.out.size))
  clear hb2
  go_wp2_with fail
  refine (HT.out w2 (HTB.out.below HB2.out)).mono ?_
  rintro e w3 ⟨rfl, hb3⟩
  have HB3 := hide (HB2.out.trans (hb3.mono HB2.out.size))
  clear hb3
  rcases HEq.out with ⟨rfl, rfl⟩ | ⟨hne1, hne2⟩
  · go_wp2_with fail
    refine (HRm.out _ (HTB.out.below (HB3.out.alloc HB3.out.size _))).mono ?_
    rintro e w4 ⟨rfl, hb4⟩
    have HB4 : Hid (Below w.heap.size w w4) := HB3.out.trans ((((Below.refl _ _).alloc (Nat.le_refl _) _).trans (hb4.mono (by simp))).mono HB3.out.size)
    clear hb4 hcv
    rcases HRead.out with rfl | ⟨k, rfl, hkn, hkf, hkt⟩
    · go_wp2_with fail
      refine (HR0.out w4 (HTB.out.below HB4.out)).mono ?_
      rintro e w5 ⟨rfl, hb5⟩
      have HB5 := hide (HB4.out.trans (hb5.mono HB4.out.size))
      clear hb5
      go_wp2_with fail
      refine (HR1.out w5 (HTB.out.below HB5.out)).mono ?_
      rintro e w6 ⟨rfl, hb6⟩
      have HB6 := hide (HB5.out.trans (hb6.mono HB5.out.size))
      clear hb6
      go_wp2_with fail
      go_ret
      exact ⟨rfl, HB6.out⟩
    · have hkb : (k == n) = false := by simpa using hkn
      have HSk := hide (HShow.out k w4 (HTB.out.below HB4.out) hkf hkt)
      clear hkf hkt
      go_wp2_with fail
      refine HSk.out.mono ?_
      rintro e w5 ⟨rfl, hb5⟩
      have HB5 := hide (HB4.out.trans (hb5.mono HB4.out.size))
      clear hb5
      go_wp2_with fail
      refine (HR0.out w5 (HTB.out.below HB5.out)).mono ?_
      rintro e w6 ⟨rfl, hb6⟩
      have HB6 := hide (HB5.out.trans (hb6.mono HB5.out.size))
      clear hb6
      go_wp2_with fail
      refine (HR1.out w6 (HTB.out.below HB6.out)).mono ?_
      rintro e w7 ⟨rfl, hb7⟩
      have HB7 := hide (HB6.out.trans (hb7.mono HB6.out.size))
      clear hb7
      go_wp2_with fail
      go_ret
      exact ⟨rfl, HB7.out⟩
  · have hb1 : (n == m) = false := by simpa using hne1
    have hb2 := str_ne hne2
    go_wp2_with fail
    refine (HRm.out _ (HTB.out.below (HB3.out.alloc HB3.out.size _))).mono ?_
    rintro e w4 ⟨rfl, hb4⟩
    have HB4 : Hid (Below w.heap.size w w4) := HB3.out.trans ((((Below.refl _ _).alloc (Nat.le_refl _) _).trans (hb4.mono (by simp))).mono HB3.out.size)
    clear hb4 hcv
    rcases HRead.out with rfl | ⟨k, rfl, hkn, hkf, hkt⟩
    · go_wp2_with fail
      refine (HR0.out w4 (HTB.out.below HB4.out)).mono ?_
      rintro e w5 ⟨rfl, hb5⟩
      have HB5 := hide (HB4.out.trans (hb5.mono HB4.out.size))
      clear hb5
      go_wp2_with fail
      refine (HR1.out w5 (HTB.out.below HB5.out)).mono ?_
      rintro e w6 ⟨rfl, hb6⟩
      have HB6 := hide (HB5.out.trans (hb6.mono HB5.out.size))
      clear hb6
      go_wp2_with fail
      go_ret
      exact ⟨rfl, HB6.out⟩
    · have hkb : (k == n) = false := by simpa using hkn
      have HSk := hide (HShow.out k w4 (HTB.out.below HB4.out) hkf hkt)
      clear hkf hkt
      go_wp2_with fail
      refine HSk.out.mono ?_
      rintro e w5 ⟨rfl, hb5⟩
      have HB5 := hide (HB4.out.trans (hb5.mono HB4.out.size))
      clear hb5
      go_wp2_with fail
      refine (HR0.out w5 (HTB.out.below HB5.out)).mono ?_
      rintro e w6 ⟨rfl, hb6⟩
      have HB6 := hide (HB5.out.trans (hb6.mono HB5.out.size))
      clear hb6
      go_wp2_with fail
      refine (HR1.out w6 (HTB.out.below HB6.out)).mono ?_
      rintro e w7 ⟨rfl, hb7⟩
      have HB7 := hide (HB6.out.trans (hb7.mono HB6.out.size))
      clear hb7
      go_wp2_with fail
      go_ret
      exact ⟨rfl, HB7.out⟩
end Go.Proofs.YtinfjhfopmglaaaDoor
