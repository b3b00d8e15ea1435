/-
  name.Runes: what it answers.
-/
import Derived.Test.YtpekemiplldlpaaDoorNameP
import Derived.Test.YtpekemiplldlpaaDoorOwn
namespace Go.Proofs.YtpekemiplldlpaaDoor
set_option linter.unusedVariables false
set_option linter.unusedSimpArgs false
open Go.RowKit

theorem info_i32 : (Tryd.prog.info? 21).map (fun i => (i.zero, i.size, i.bytes)) = some (some (.int .i32 0), 1, 4) := by kernel_rfl
theorem info_i64 : (Tryd.prog.info? 3).map (fun i => (i.zero, i.size, i.bytes)) = some (some (.int .i64 0), 1, 8) := by kernel_rfl

/-- a text's runes as numbers. -/
def runeNums (m : List Nat) : List Int := m.map Int.ofNat
theorem runeNums_length (m : List Nat) : (runeNums m).length = m.length := by simp [runeNums]
theorem runeNums_snoc (m : List Nat) (r : Nat) : (runeNums (m ++ [r])) = runeNums m ++ [(r : Int)] := by simp [runeNums]

set_option maxHeartbeats 1000000 in
theorem nrunes_any (l : List Int) (w : World) (hz : Nums.Bytes l) (hm : l.length ≤ 1000000) :
    Calls Tryd.prog 10 #[.string (strOfNums l)] w fun e w' => ∃ a cap, e = .returned (.slice a (runes l).length cap) ∧ (runes l).length ≤ cap ∧ cap ≤ maxLen ∧ Row .i32 w' a (runes l).length (runeNums (runes l)) ∧ Below w.heap.size w w' := by
  obtain ⟨i0, hi, hz0, hz1, hz2⟩ := info_parts info_i32
  have hsz := size_str l
  have HNR := hide (next_dec l hz)
  have HRL := hide (runes_length hz)
  generalize strOfNums l = S at *
  go_enter Tryd.func10, Tryd.ntmps10
  go_wp2
  go_loopw [3] (fun v wr => ∃ (pos : Nat) (acc : List Nat), pos ≤ l.length ∧ wr.heap[w.heap.size]? = some (.stringIter S pos) ∧ Below w.heap.size w wr ∧ wr.ownsRow (w.heap.size + 1) 21 1 v acc.length ((runeNums acc).map (Value.int .i32)) ∧ acc ++ runes (l.drop pos) = runes l) (fun _ wr => l.length - wr.iterPos w.heap.size)
  case atStart => exact ⟨0, [], Nat.zero_le _, World.iter_heap w S 0, (Below.refl _ _).alloc (Nat.le_refl _) _, World.ownsRow_nil _ _ _ _, rfl⟩
  case round =>
    obtain ⟨pos, acc, hpos, hk, hb, hown, hacc⟩ := hrel
    have HK := hide hk
    have HB := hide hb
    have HA := hide hacc
    have HO := hide hown
    clear hb hacc hown
    by_cases hp : pos < l.length
    · have hnext := HNR.out wr w.heap.size pos hk hp
      obtain ⟨h1, h2, h3⟩ := at_width hz hp
      have HR := hide (runes_at hz hp)
      have HW : Hid ((wr.iterAt w.heap.size S (pos + (dec (l.drop pos)).2)).heap[w.heap.size]? = some (.stringIter S (pos + (dec (l.drop pos)).2))) := Lib.iterAt_heap wr _ S pos _ hk
      have HBW : Hid (Below w.heap.size w (wr.iterAt w.heap.size S (pos + (dec (l.drop pos)).2))) := Lib.below_iterAt HB.out (Nat.le_refl _) _ _
      have HOW : Hid ((wr.iterAt w.heap.size S (pos + (dec (l.drop pos)).2)).ownsRow (w.heap.size + 1) 21 1 u3 acc.length ((runeNums acc).map (Value.int .i32))) := by
        obtain ⟨hl, h⟩ := HO.out
        refine ⟨hl, ?_⟩
        rcases h with h | ⟨g, cap, cur, hv, hB, hg, hrest⟩
        · exact .inl h
        · exact .inr ⟨g, cap, cur, hv, hB, by rw [Lib.iterAt_other _ _ _ _ _ (by omega)]; exact hg, hrest⟩
      have HP : Hid (wr.iterPos w.heap.size = pos) := by
        show _ = _
        simp [World.iterPos, hk]
      clear hk
      generalize hwd : (dec (l.drop pos)).2 = wd at *
      generalize hr : (dec (l.drop pos)).1 = r at *
      generalize wr.iterAt w.heap.size S (pos + wd) = W2 at *
      have hW2 := HW.out
      have HS2 : Hid (w.heap.size < W2.heap.size) := (Array.getElem?_eq_some_iff.1 hW2).1
      clear hW2
      have HAL : Hid (acc.length + 1 ≤ l.length) := by
        show _ ≤ _
        have e := congrArg List.length HA.out
        rw [HR.out] at e
        have := HRL.out
        simp at e
        omega
      have hal := HAL.out
      clear hwd hr h3
      go_wp2_with (at_builtin; refine wpList_append_own _ rfl _ _ 23 rfl (w.heap.size + 1) 21 i0 (.int .i32 0) 1 4 Tryd.underlying23 hi hz0 hz1 hz2 rfl (by decide) _ _ _ rfl (HOW.out.alloc _) ⟨W2.heap.size, 0, none⟩ 1 1 [.int .i32 r] rfl rfl ?c1 ?c2 ?c3 ?c4 ?c5 ?_)
      case c1 =>
        intro j u hj
        match j, hj with
        | 0, hj => simp at hj; subst hj; simp [Addr.add]
      case c2 => intro u hu; simp at hu; subst hu; rfl
      case c3 => unfold maxLen; omega
      case c4 => omega
      case c5 => have := HS2.out; simp; omega
      intro v' w1 hown' hgrow _
      have HBQ : Hid (Below (w.heap.size + 1) W2 w1) := own_below (HOW.out.alloc _) hgrow (by have := HS2.out; simp; omega) ((Below.refl _ W2).alloc (by have := HS2.out; omega) _) (Nat.le_refl _)
      have HON := hide hown'
      clear hown' hgrow
      go_wp2
      go_roundw
      case rel =>
        refine ⟨pos + wd, acc ++ [r], h2, (HBQ.out.block _ (Nat.lt_succ_self _)).trans HW.out, HBW.out.trans (HBQ.out.mono (Nat.le_succ _)), ?_, ?_⟩
        · have := HON.out
          rw [runeNums_snoc, List.map_append, List.length_append]
          exact this
        · rw [← HA.out, HR.out]; simp
      case measure =>
        have e : w1.iterPos w.heap.size = pos + wd := by
          have := (HBQ.out.block _ (Nat.lt_succ_self _)).trans HW.out
          simp [World.iterPos, this]
        rw [e, HP.out]
        omega
    · obtain rfl : pos = l.length := by omega
      have hnext := next_end S wr w.heap.size l.length hk (by omega)
      clear hk
      have e1 : acc = runes l := by
        have := HA.out
        rw [List.drop_length, runes_nil, List.append_nil] at this
        exact this
      subst e1
      obtain ⟨a, cap, rfl, hle, hmax, _, hrow⟩ := row_of_own HO.out
      have HRow := hide hrow
      clear hrow
      go_wp2
      go_ret
      exact ⟨a, cap, rfl, hle, hmax, HRow.out, HB.out⟩
end Go.Proofs.YtpekemiplldlpaaDoor
