/-
  A text, as it is seen: the program's and the document's answers.
-/
import Derived.Test.YtpekemiplldlpaaDoorNameI
import Derived.Test.YtpekemiplldlpaaDoorBld
namespace Go.Proofs.YtpekemiplldlpaaDoor
set_option linter.unusedVariables false
set_option linter.unusedSimpArgs false
open Go.RowKit

theorem dig16 (d : Nat) (h : d < 16) : (⟨#[48, 49, 50, 51, 52, 53, 54, 55, 56, 57, 97, 98, 99, 100, 101, 102]⟩ : ByteArray).extract d (d + 1) = strOfNums [hxd d] := by
  have key : ∀ d : Fin 16, ((⟨#[48, 49, 50, 51, 52, 53, 54, 55, 56, 57, 97, 98, 99, 100, 101, 102]⟩ : ByteArray).extract d.val (d.val + 1)) = strOfNums [hxd d.val] := by decide +kernel
  exact key ⟨d, h⟩

/-- the document's hex. -/
theorem rhex_any (f : Nat) : ∀ (n : Nat) (w : World), n < 16 ^ (f + 1) → f ≤ 8 →
    Calls Tryd.prog 27 #[.int .i64 n] w fun e w' => e = .returned (.string (strOfNums (hexF (f + 1) n))) ∧ Below w.heap.size w w' := by
  induction f with
  | zero =>
    intro n w hn _
    simp at hn
    have hd := dig16 n hn
    have HT : Hid (hexF (0 + 1) n = [hxd n]) := by
      show _ = _
      unfold hexF
      rw [if_pos hn]
    have hm : (n : Int).tmod 16 = n := by rw [Int.tmod_eq_emod_of_nonneg (by omega)]; omega
    have hlt : (n : Int) < 16 := by omega
    generalize hS : strOfNums [hxd n] = S at *
    have HS := hide hS
    clear hS
    go_enter Tryd.func27, Tryd.ntmps27
    go_wp2
    go_ret
    exact ⟨by rw [HT.out, HS.out, ← hd]; rfl, Below.refl _ _⟩
  | succ f ih =>
    intro n w hn hf
    have hbig : n < 68719476736 := Nat.lt_of_lt_of_le hn (Nat.le_trans (Nat.pow_le_pow_right (by decide) (show f + 1 + 1 ≤ 9 by omega)) (by decide))
    have hd := dig16 (n % 16) (by omega)
    have hm : (n : Int).tmod 16 = ((n % 16 : Nat) : Int) := by rw [Int.tmod_eq_emod_of_nonneg (by omega)]; omega
    have hq : (n : Int).tdiv 16 = ((n / 16 : Nat) : Int) := by rw [Int.tdiv_eq_ediv_of_nonneg (by omega)]; omega
    by_cases h16 : n < 16
    · have HT : Hid (hexF (f + 1 + 1) n = [hxd (n % 16)]) := by
        show _ = _
        unfold hexF
        rw [if_pos h16, show n % 16 = n by omega]
      have hlt : (n : Int) < 16 := by omega
      have h0 : n % 16 < 16 := by omega
      clear hq
      generalize n % 16 = d at *
      generalize hS : strOfNums [hxd d] = S at *
      have HS := hide hS
      clear hS
      go_enter Tryd.func27, Tryd.ntmps27
      go_wp2
      go_ret
      exact ⟨by rw [HT.out, HS.out, ← hd]; rfl, Below.refl _ _⟩
    · have HT : Hid (strOfNums (hexF (f + 1) (n / 16)) ++ strOfNums [hxd (n % 16)] = strOfNums (hexF (f + 1 + 1) n)) := by
        show _ = _
        conv => rhs; unfold hexF
        rw [if_neg h16, str_append]
      have HI := hide (ih (n / 16) w (by rw [Nat.pow_succ] at hn; omega) (by omega))
      have hsz := size_str (hexF (f + 1) (n / 16))
      have hln := hexF_len (f + 1) (n / 16)
      have hlt : ¬ (n : Int) < 16 := by omega
      have h0 : n % 16 < 16 := by omega
      have h1 : n / 16 < 68719476736 := by omega
      generalize n % 16 = d at *
      generalize n / 16 = q at *
      generalize strOfNums (hexF (f + 1) q) = T at *
      have HD := hide hd
      have hsd := size_str [hxd d]
      simp only [List.length_cons, List.length_nil] at hsd
      rw [← hd] at hsd
      clear hd
      go_enter Tryd.func27, Tryd.ntmps27
      go_wp2_with fail
      refine HI.out.mono ?_
      rintro e w1 ⟨rfl, hb⟩
      have HB := hide hb
      clear hb
      go_wp2_with fail
      go_ret
      exact ⟨by rw [← HT.out, ← HD.out]; rfl, HB.out⟩

/-- name.shown. -/
theorem shown_any (r : Nat) (w : World) (ht : Tabs w) (hr : r ≤ 1114111) (hs : ofR r = true → r < 55296 ∨ 57344 ≤ r) :
    Calls Tryd.prog 25 #[.int .i32 r] w fun e w' => e = .returned (.string (strOfNums (shownR r))) ∧ Below w.heap.size w w' := by
  have HOF := hide (nof_any (r : Int))
  cases ho : ofR r with
  | true =>
    rw [ho] at HOF
    have HT : Hid (Utf8.encode r = strOfNums (shownR r)) := by
      show _ = _
      unfold shownR
      rw [if_pos ho]
      exact enc_str (of_bounds ho) (hs ho)
    clear ho hs ht
    go_enter Tryd.func25, Tryd.ntmps25
    go_wp2_with fail
    refine (HOF.out w).mono ?_
    rintro e w1 ⟨rfl, hw⟩
    obtain rfl := hw.symm
    go_wp2_with fail
    go_ret
    exact ⟨by rw [← HT.out]; rfl, Below.refl _ _⟩
  | false =>
    rw [ho] at HOF
    have HF := hide (fmtint16 r w ht hr)
    have HT : Hid (((⟨#[60]⟩ : ByteArray) ++ strOfNums (hexd r)) ++ (⟨#[62]⟩ : ByteArray) = strOfNums (shownR r)) := by
      show _ = _
      unfold shownR
      rw [if_neg (by rw [ho]; decide)]
      rw [show (⟨#[60]⟩ : ByteArray) = strOfNums [60] from rfl, show (⟨#[62]⟩ : ByteArray) = strOfNums [62] from rfl, str_append, str_append]
      rfl
    have hsz := size_str (hexd r)
    have hln := hexF_len 8 r
    rw [show hexF 8 r = hexd r from rfl] at hln
    generalize strOfNums (hexd r) = T at *
    clear ho hs ht
    go_enter Tryd.func25, Tryd.ntmps25
    go_wp2_with fail
    refine (HOF.out w).mono ?_
    rintro e w1 ⟨rfl, hw⟩
    obtain rfl := hw.symm
    go_wp2_with fail
    refine HF.out.mono ?_
    rintro e w1 ⟨rfl, hb⟩
    have HB := hide hb
    clear hb
    go_wp2_with fail
    go_ret
    exact ⟨by rw [← HT.out]; rfl, HB.out⟩

/-- a builder stays one where only new memory was made. -/
theorem bld_kept {T e : TypeId} {B b : Nat} {bs : List Value} {w w' : World} (h : Lib.IsBuilderF T e B b bs w) (hb : Below w.heap.size w w') : Lib.IsBuilderF T e B b bs w' := by
  have one : ∀ p, Lib.BuilderAtF T e B b p bs w → Lib.BuilderAtF T e B b p bs w' := fun p ⟨h1, v, h2, h3, h4⟩ => by
    refine ⟨h1, v, (hb.block _ (Array.getElem?_eq_some_iff.1 h2).1).trans h2, ⟨h3.1, ?_⟩, h4⟩
    rcases h3.2 with h | ⟨g, cap, cur, fz, hv, hbg, hg, rest⟩
    · exact .inl h
    · exact .inr ⟨g, cap, cur, fz, hv, hbg, (hb.block _ (Array.getElem?_eq_some_iff.1 hg).1).trans hg, rest⟩
  exact h.elim (fun x => .inl (one _ x)) (fun x => .inr (one _ x))

theorem str_eta (l : List Int) : (⟨(strOfNums l).data.toList.toArray⟩ : ByteArray) = strOfNums l := by simp
theorem cells_append (x y : List Int) : Lib.byteCells (strOfNums x).data.toList ++ Lib.strCells (strOfNums y) = Lib.byteCells (strOfNums (x ++ y)).data.toList := by
  rw [Lib.strCells_eq, ← Lib.byteCells_append]
  congr 1
  rw [strOfNums_data, strOfNums_data, strOfNums_data, List.map_append]

set_option maxHeartbeats 2000000 in
/-- name.Show. -/
theorem nshow_any (l : List Int) (w : World) (ht : Tabs w) (hz : Nums.Bytes l) (hm : l.length ≤ 1000000) :
    Calls Tryd.prog 20 #[.string (strOfNums l)] w fun e w' => e = .returned (.string (strOfNums (seen l))) ∧ Below w.heap.size w w' := by
  have hsz := size_str l
  have HNR := hide (next_dec l hz)
  have HSL := hide (seen_length hz)
  have HTB := hide ht
  clear ht
  generalize strOfNums l = S at *
  go_enter Tryd.func20, Tryd.ntmps20
  go_wp2_with fail
  go_loopw [] (fun wr => ∃ (pos : Nat) (acc : List Int), pos ≤ l.length ∧ Lib.IsBuilderF 43 5 w.heap.size w.heap.size (Lib.byteCells (strOfNums acc).data.toList) wr ∧ wr.heap[w.heap.size + 1]? = some (.stringIter S pos) ∧ Below w.heap.size w wr ∧ acc ++ seen (l.drop pos) = seen l) (fun wr => l.length - wr.iterPos (w.heap.size + 1))
  case atStart =>
    refine ⟨0, [], Nat.zero_le _, (Lib.IsBuilderF.of (Lib.fresh_isBuilder 43 5 w)).alloc _, ?_, ((Below.refl _ w).alloc (Nat.le_refl _) _).alloc (by simp) _, by simp⟩
    have := World.iter_heap (w.alloc (.cells #[.pointer none, .slice none 0 0] 43)) S 0
    simpa using this
  case round =>
    obtain ⟨pos, acc, hpos, hI, hk, hb, hacc⟩ := hrel
    have HB := hide hb
    have HA := hide hacc
    have HI := hide hI
    clear hb hacc hI
    have HACL : Hid (acc.length ≤ 10000000) := by
      show _ ≤ _
      have e := congrArg List.length HA.out
      have := HSL.out
      simp at e
      omega
    by_cases hp : pos < l.length
    · have hnext := HNR.out wr (w.heap.size + 1) pos hk hp
      obtain ⟨h1, h2, h3⟩ := at_width hz hp
      have HR := hide (seen_at hz hp)
      have HW : Hid ((wr.iterAt (w.heap.size + 1) S (pos + (dec (l.drop pos)).2)).heap[w.heap.size + 1]? = some (.stringIter S (pos + (dec (l.drop pos)).2))) := Lib.iterAt_heap wr _ S pos _ hk
      have HBW : Hid (Below w.heap.size w (wr.iterAt (w.heap.size + 1) S (pos + (dec (l.drop pos)).2))) := Lib.below_iterAt HB.out (Nat.le_succ _) _ _
      have HIW := hide (HI.out.iterAt hk (pos + (dec (l.drop pos)).2))
      have HP : Hid (wr.iterPos (w.heap.size + 1) = pos) := by
        show _ = _
        simp [World.iterPos, hk]
      have HSH := hide (fun W hW => shown_any (dec (l.drop pos)).1 W hW h3 (fun ho => (enc_dec (bytes_dropw hz pos) (fun h => by have := congrArg List.length h; simp at this; omega) ho).2))
      have HL10 := hide (shownR_len (dec (l.drop pos)).1)
      clear hk
      generalize hwd : (dec (l.drop pos)).2 = wd at *
      generalize hr : (dec (l.drop pos)).1 = r at *
      generalize wr.iterAt (w.heap.size + 1) S (pos + wd) = W2 at *
      clear hwd hr h3
      go_wp2_with fail
      refine (HSH.out W2 (HTB.out.below HBW.out)).mono ?_
      rintro e W3 ⟨rfl, hb3⟩
      have HIT3 : Hid (W3.heap[w.heap.size + 1]? = some (.stringIter S (pos + wd))) := (hb3.block _ (Array.getElem?_eq_some_iff.1 HW.out).1).trans HW.out
      have HB3 := hide (HBW.out.trans (hb3.mono HBW.out.size))
      have HI3 := hide (bld_kept HIW.out hb3)
      clear hb3
      have HWR := hide (bld_write w.heap.size w.heap.size _ (strOfNums (shownR r)) W3 HI3.out (by rw [Lib.byteCells_length, size_str]; have := HACL.out; have := HL10.out; simp [strOfNums_data]; omega) HB3.out.size)
      rw [cells_append] at HWR
      generalize strOfNums (shownR r) = T at *
      go_wp2_with fail
      refine HWR.out.mono ?_
      rintro e W4 ⟨rfl, h4, b4, k4⟩
      have HI4 : Hid (Lib.IsBuilderF 43 5 w.heap.size w.heap.size (Lib.byteCells (strOfNums (acc ++ shownR r)).data.toList) W4) := Or.inr h4
      have HB4 := hide (HB3.out.trans b4)
      have HIT4 := hide (k4.iter HIT3.out (by omega))
      clear h4 b4 k4
      go_wp2_with fail
      go_roundw
      case rel => exact ⟨pos + wd, acc ++ shownR r, h2, HI4.out, HIT4.out, HB4.out, by rw [← HA.out, HR.out, List.append_assoc]⟩
      case measure =>
        have e : W4.iterPos (w.heap.size + 1) = pos + wd := by
          have := HIT4.out
          simp [World.iterPos, this]
        rw [e, HP.out]
        omega
    · obtain rfl : pos = l.length := by omega
      have hnext := next_end S wr (w.heap.size + 1) l.length hk (by omega)
      clear hk
      have HST := hide (bld_string w.heap.size w.heap.size _ wr HI.out HB.out.size)
      rw [str_eta] at HST
      have HE : Hid (acc = seen l) := by
        show _ = _
        have := HA.out
        rw [List.drop_length, seen_nil, List.append_nil] at this
        exact this
      rw [HE.out] at HST
      generalize hTT : strOfNums (seen l) = T at HST
      have HTT := hide hTT
      clear hTT
      go_wp2_with fail
      refine HST.out.mono ?_
      rintro e W4 ⟨rfl, _, b4, _⟩
      have HB4 := hide (HB.out.trans b4)
      clear b4
      go_wp2_with fail
      go_ret
      exact ⟨by rw [HTT.out]; rfl, HB4.out⟩
end Go.Proofs.YtpekemiplldlpaaDoor
