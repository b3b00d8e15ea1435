/-
  A text's first runes: the program's and the document's answers.
-/
import Derived.Test.YtpekemiplldlpaaDoorNameD
namespace Go.Proofs.YtpekemiplldlpaaDoor
set_option linter.unusedVariables false
set_option linter.unusedSimpArgs false
open Go.RowKit

theorem cutF_nil (n : Nat) : cutF n [] = [] := by cases n <;> simp [cutF]
theorem cutF_step (n : Nat) {l : List Int} (h : l ≠ []) : cutF (n + 1) l = l.take (dec l).2 ++ cutF n (l.drop (dec l).2) := by
  rw [cutF, if_neg h]
theorem cut_at {l : List Int} {pos n : Nat} (hp : pos < l.length) : l.take pos ++ cutF (n + 1) (l.drop pos) = l.take (pos + (dec (l.drop pos)).2) ++ cutF n (l.drop (pos + (dec (l.drop pos)).2)) := by
  rw [cutF_step n (fun h => by have := congrArg List.length h; simp at this; omega), List.drop_drop, ← List.append_assoc, List.take_add]
theorem cutF_bytes {n : Nat} {l : List Int} (hz : Nums.Bytes l) : Nums.Bytes (cutF n l) := by
  induction n generalizing l with
  | zero => intro z h; cases h
  | succ n ih =>
    by_cases h : l = []
    · subst h; rw [cutF_nil]; intro z h; cases h
    · rw [cutF_step n h]
      intro z hz'
      rcases List.mem_append.1 hz' with h' | h'
      · exact hz z (List.mem_of_mem_take h')
      · exact ih (bytes_dropw hz _) z h'
theorem cutF_begin {n : Nat} {l : List Int} : ∃ k, k ≤ l.length ∧ cutF n l = l.take k := by
  induction n generalizing l with
  | zero => exact ⟨0, Nat.zero_le _, by simp [cutF]⟩
  | succ n ih =>
    by_cases h : l = []
    · subst h; exact ⟨0, Nat.zero_le _, by simp [cutF]⟩
    · obtain ⟨k, hk, e⟩ := ih (l := l.drop (dec l).2)
      simp at hk
      rw [cutF_step n h, e]
      by_cases hw : (dec l).2 ≤ l.length
      · exact ⟨(dec l).2 + k, by omega, by rw [List.take_add]⟩
      · refine ⟨l.length, Nat.le_refl _, ?_⟩
        rw [List.take_of_length_le (by omega), List.drop_of_length_le (by omega)]
        simp

set_option maxHeartbeats 1000000 in
theorem ncut_any (l : List Int) (n : Int) (w : World) (hz : Nums.Bytes l) (hm : l.length ≤ 1000000) (hn0 : -9223372036854775808 ≤ n) (hn1 : n ≤ 9223372036854775807) :
    Calls Tryd.prog 18 #[.string (strOfNums l), .int .i64 n] w fun e w' => e = .returned (.string (strOfNums (cutF n.toNat l))) ∧ Below w.heap.size w w' := by
  have hsz := size_str l
  have HNR := hide (next_dec l hz)
  have HHead := hide (str_head l)
  generalize hS : strOfNums l = S at *
  have HS := hide hS
  clear hS
  go_enter Tryd.func18, Tryd.ntmps18
  go_wp2
  go_loopw [1] (fun v wr => ∃ (pos : Nat) (k : Int), pos ≤ l.length ∧ wr.heap[w.heap.size]? = some (.stringIter S pos) ∧ Below w.heap.size w wr ∧ v = .int .i64 k ∧ -9223372036854775808 ≤ k ∧ k ≤ 9223372036854775807 ∧ l.take pos ++ cutF k.toNat (l.drop pos) = cutF n.toNat l) (fun _ wr => l.length - wr.iterPos w.heap.size)
  case atStart => exact ⟨0, n, Nat.zero_le _, World.iter_heap w S 0, (Below.refl _ _).alloc (Nat.le_refl _) _, rfl, hn0, hn1, by simp⟩
  case round =>
    obtain ⟨pos, k, hpos, hk, hb, rfl, hk0, hk1, hacc⟩ := hrel
    have HB := hide hb
    have HA := hide hacc
    clear hb hacc
    by_cases hp : pos < l.length
    · have hnext := HNR.out wr w.heap.size pos hk hp
      obtain ⟨h1, h2, h3⟩ := at_width hz hp
      have HC := hide (fun j => cut_at (n := j) hp)
      have HW : Hid ((wr.iterAt w.heap.size S (pos + (dec (l.drop pos)).2)).heap[w.heap.size]? = some (.stringIter S (pos + (dec (l.drop pos)).2))) := Lib.iterAt_heap wr _ S pos _ hk
      have HBW : Hid (Below w.heap.size w (wr.iterAt w.heap.size S (pos + (dec (l.drop pos)).2))) := Lib.below_iterAt HB.out (Nat.le_refl _) _ _
      have HP : Hid (wr.iterPos w.heap.size = pos) := by
        show _ = _
        simp [World.iterPos, hk]
      clear hk
      generalize hwd : (dec (l.drop pos)).2 = wd at *
      generalize hr : (dec (l.drop pos)).1 = r at *
      generalize wr.iterAt w.heap.size S (pos + wd) = W2 at *
      clear hwd hr h3
      by_cases hn : k < 1
      · have HF : Hid (S.extract 0 pos = strOfNums (cutF n.toNat l)) := by
          show _ = _
          rw [HHead.out, ← HA.out, show k.toNat = 0 by omega]
          simp [cutF]
        have hps : (pos : Int) ≤ (S.size : Int) := by omega
        go_wp2_with fail
        go_ret
        exact ⟨by rw [← HF.out]; rfl, HBW.out⟩
      · have HN : Hid (l.take (pos + wd) ++ cutF (k - 1).toNat (l.drop (pos + wd)) = cutF n.toNat l) := by
          show _ = _
          have := HC.out (k - 1).toNat
          rw [← this, show (k - 1).toNat + 1 = k.toNat by omega]
          exact HA.out
        go_wp2_with fail
        go_roundw
        case rel => exact ⟨pos + wd, k - 1, h2, HW.out, HBW.out, by go_num, by omega, by omega, HN.out⟩
        case measure =>
          have e : W2.iterPos w.heap.size = pos + wd := by
            have := HW.out
            simp [World.iterPos, this]
          rw [e, HP.out]
          omega
    · obtain rfl : pos = l.length := by omega
      have hnext := next_end S wr w.heap.size l.length hk (by omega)
      clear hk
      have HF : Hid (S = strOfNums (cutF n.toNat l)) := by
        show _ = _
        have := HA.out
        rw [List.drop_length, cutF_nil, List.append_nil, List.take_length] at this
        rw [← this, HS.out]
      go_wp2
      go_ret
      exact ⟨by rw [← HF.out]; rfl, HB.out⟩

set_option maxHeartbeats 1000000 in
theorem rcut_any (l : List Int) (n : Int) (w : World) (hz : Nums.Bytes l) (hm : l.length ≤ 1000000) (hn0 : -9223372036854775808 ≤ n) (hn1 : n ≤ 9223372036854775807) :
    Calls Tryd.prog 19 #[.string (strOfNums l), .int .i64 n] w fun e w' => e = .returned (.string (strOfNums (cutF n.toNat l))) ∧ Below w.heap.size w w' := by
  go_enter Tryd.func19, Tryd.ntmps19
  go_wp2
  go_loopw [0, 1, 5] (fun s v o wr => ∃ (m q : List Int) (k : Int), Nums.Bytes m ∧ q.length + m.length ≤ l.length ∧ s = .string (strOfNums m) ∧ v = .int .i64 k ∧ o = .string (strOfNums q) ∧ -9223372036854775808 ≤ k ∧ k ≤ 9223372036854775807 ∧ Below w.heap.size w wr ∧ q ++ cutF k.toNat m = cutF n.toNat l) (fun s _ _ _ => strLen s)
  case atStart => exact ⟨l, [], n, hz, by simp, rfl, rfl, rfl, hn0, hn1, Below.refl _ _, rfl⟩
  case round =>
    obtain ⟨m, q, k, hmz, hml, rfl, rfl, rfl, hk0, hk1, hb, hacc⟩ := hrel
    have HB := hide hb
    have HA := hide hacc
    clear hb hacc
    have hsz := size_str m
    have hsq := size_str q
    by_cases hp : m = []
    · subst hp
      have HF : Hid (strOfNums q = strOfNums (cutF n.toNat l)) := by
        show _ = _
        rw [← HA.out, cutF_nil, List.append_nil]
      generalize strOfNums q = Q at *
      go_wp2
      go_ret
      exact ⟨by rw [← HF.out]; rfl, HB.out⟩
    · by_cases hn : k < 1
      · have hnk : ¬ (0 : Int) < k := by omega
        have HF : Hid (strOfNums q = strOfNums (cutF n.toNat l)) := by
          show _ = _
          rw [← HA.out, show k.toNat = 0 by omega]
          simp [cutF]
        have hlp : 0 < m.length := List.length_pos_iff.2 hp
        generalize strOfNums m = S at *
        have hlen : (0 : Int) < (S.size : Int) := by omega
        generalize strOfNums q = Q at *
        go_wp2
        go_ret
        exact ⟨by rw [← HF.out]; rfl, HB.out⟩
      · have hnk : (0 : Int) < k := by omega
        obtain ⟨h1, h2, h3, h4⟩ := dec_width hmz hp
        have HF := hide (first_any m wr hmz (by omega) (by omega))
        have HRest := hide (str_rest m (dec m).2)
        have HApp : Hid (strOfNums q ++ (strOfNums m).extract 0 (dec m).2 = strOfNums (q ++ m.take (dec m).2)) := by
          show _ = _
          rw [str_head, str_append]
        have HN : Hid ((q ++ m.take (dec m).2) ++ cutF (k - 1).toNat (m.drop (dec m).2) = cutF n.toNat l) := by
          show _ = _
          have := cutF_step (k - 1).toNat hp
          rw [show (k - 1).toNat + 1 = k.toNat by omega] at this
          rw [List.append_assoc, ← this]
          exact HA.out
        have hlp : 0 < m.length := by omega
        generalize hwd : (dec m).2 = wd at *
        generalize hr : (dec m).1 = r at *
        generalize hS : strOfNums m = S at *
        generalize hQ : strOfNums q = Q at *
        clear hS hwd hr h3 hQ
        have hlen : (0 : Int) < (S.size : Int) := by omega
        have hw2 : (wd : Int) ≤ (S.size : Int) := by omega
        go_wp2_with fail
        refine HF.out.mono ?_
        rintro e w1 ⟨rfl, hw1⟩
        have HB1 := hide (HB.out.trans (hw1.mono HB.out.size))
        clear hw1
        go_wp2_with fail
        go_roundw
        case rel =>
          refine ⟨m.drop wd, q ++ m.take wd, k - 1, bytes_dropw hmz _, by simp; omega, ?_, by go_num, ?_, by omega, by omega, HB1.out, HN.out⟩
          · rw [← HRest.out, hsz]
          · rw [← HApp.out]
        case measure =>
          simp [strLen]
          omega
end Go.Proofs.YtpekemiplldlpaaDoor
