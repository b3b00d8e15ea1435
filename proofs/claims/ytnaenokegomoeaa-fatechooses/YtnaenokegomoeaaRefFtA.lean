/-
  The document's answers (layer 6): Values.
-/
import Derived.Test.YtnaenokegomoeaaRefDevG
import Derived.Test.YtnaenokegomoeaaPmPlain
namespace Go.Proofs.Ytnaenokegomoeaa
set_option linter.unusedVariables false
set_option linter.unusedSimpArgs false
open Go.RowKit

/-- one value more, if it isn't there. -/
def addNew (L : List Int) (v : Int) : List Int := if v ∈ L then L else L ++ [v]
def valsTo (f : Pm.F) : Nat → List Int
  | 0 => []
  | n + 1 => addNew (valsTo f n) (f.value n)
theorem valsTo_three (f : Pm.F) : valsTo f 3 = f.vals := by
  show addNew (addNew (addNew [] (f.value 0)) (f.value 1)) (f.value 2) = Pm.vals3 (f.value 0) (f.value 1) (f.value 2)
  generalize f.value 0 = a
  generalize f.value 1 = b
  generalize f.value 2 = c
  unfold addNew Pm.vals3
  by_cases h1 : b = a
  · by_cases h2 : c = a
    · simp [h1, h2]
    · simp [h1, h2]
  · by_cases h2 : c = a
    · simp [h1, h2]
    · by_cases h3 : c = b
      · simp [h1, h2, h3]
      · simp [h1, h2, h3]
theorem valsTo_length (f : Pm.F) (n : Nat) : (valsTo f n).length ≤ n := by
  induction n with
  | zero => simp [valsTo]
  | succ n ih =>
    unfold valsTo addNew
    split
    · omega
    · simp; omega

theorem info_w64 : (Try.prog.info? 22).map (fun i => (i.zero, i.size, i.bytes)) = some (some (.int .u64 0), 1, 8) := by kernel_rfl

/-- numbers that are owned, read. -/
theorem own_cells {w : World} {B : Nat} {T : TypeId} {v : Value} {L : List Int} (h : w.ownsRow B T 1 v L.length (L.map (Value.int .u64))) (hp : 0 < L.length) :
    ∃ g cap, v = .slice (some ⟨g, 0, none⟩) L.length cap ∧ L.length ≤ cap ∧ B ≤ g ∧ g < w.heap.size ∧ ∀ i, i < L.length → w.cell? ⟨g, i, none⟩ = some (.int .u64 (L.getD i 0)) := by
  rcases h.2 with ⟨_, h0⟩ | ⟨g, cap, cur, hv, hB, hg, hle, _, hcs, htake⟩
  · omega
  · refine ⟨g, cap, hv, hle, hB, (Array.getElem?_eq_some_iff.1 hg).1, fun i hi => ?_⟩
    have h2 : (cur.toList.take (L.length * 1))[i]? = (L.map (Value.int .u64))[i]? := by rw [htake]
    rw [List.getElem?_take, if_pos (by omega)] at h2
    have h3 : cur[i]? = some (.int .u64 (L.getD i 0)) := by
      have : cur.toList[i]? = cur[i]? := by simp
      rw [← this, h2]
      simp [hi]
    simp [World.cell?, hg, h3]
theorem own_len {w : World} {B : Nat} {T : TypeId} {z n : Nat} {v : Value} {xs : List Value} (h : w.ownsRow B T z v n xs) : ∃ a cap, v = .slice a n cap := by
  rcases h.2 with ⟨rfl, h0⟩ | ⟨g, cap, cur, hv, _⟩
  · exact ⟨none, 0, by rw [h0]⟩
  · exact ⟨_, cap, hv⟩

/-- a fate as a value, wherever the word lies (as it may come in). -/
def fateA (A : Int) (f : Pm.F) : List Value := [.int .i64 A, .int .u64 f.lasts, .bool f.flushed, .int .u64 f.sent, .int .u64 f.stored]

set_option maxHeartbeats 1000000 in
/-- the document's Value, wherever the word lies. -/
theorem rvalue_at (A : Int) (f : Pm.F) (n : Int) (w : World) (hn : (Lit.int .i64 n).wf = true) :
    Calls Try.prog 29 #[.agg (fateA A f).toArray, .int .i64 n] w fun e w' => e = .returned (.int .u64 (f.value n)) ∧ Below w.heap.size w w' := by
  have HR := hide (fun W => rest_any n 3 W (by decide) (by decide) hn)
  have h3 : n % 3 = 0 ∨ n % 3 = 1 ∨ n % 3 = 2 := by omega
  obtain ⟨a, l, fl, se, st⟩ := f
  show Calls Try.prog 29 #[.agg #[.int .i64 A, .int .u64 l, .bool fl, .int .u64 se, .int .u64 st], .int .i64 n] w _
  have HBL := hide (fun o => (Below.refl w.heap.size w).alloc (Nat.le_refl _) o)
  clear hn
  have hv : (n % 3 = 0 ∧ Pm.F.value ⟨a, l, fl, se, st⟩ n = l) ∨ (n % 3 = 1 ∧ fl = true ∧ Pm.F.value ⟨a, l, fl, se, st⟩ n = se) ∨ (n % 3 = 1 ∧ fl = false ∧ Pm.F.value ⟨a, l, fl, se, st⟩ n = l) ∨ (n % 3 = 2 ∧ Pm.F.value ⟨a, l, fl, se, st⟩ n = st) := by
    unfold Pm.F.value
    rcases h3 with h | h | h
    · simp [h]
    · cases fl <;> simp [h]
    · simp [h]
  clear h3
  rcases hv with ⟨h, hv⟩ | ⟨h, rfl, hv⟩ | ⟨h, rfl, hv⟩ | ⟨h, hv⟩
  all_goals
    have HV := hide hv
    rw [h] at HR
    clear h hv
    go_enter Try.func29, Try.ntmps29
    go_wp2_with fail
    refine (HR.out _).mono ?_
    rintro e w1 ⟨rfl, hw⟩
    obtain rfl := hw.symm
    go_wp2_with fail
    go_ret
    exact ⟨by rw [HV.out]; rfl, HBL.out _⟩

set_option maxRecDepth 100000 in
set_option maxHeartbeats 4000000 in
theorem rvalues_at (A : Int) (f : Pm.F) (w : World) (hw0 : (Lit.int .u64 f.lasts).wf = true) (hw1 : (Lit.int .u64 f.sent).wf = true) (hw2 : (Lit.int .u64 f.stored).wf = true) :
    Calls Try.prog 10 #[.agg (fateA A f).toArray] w fun e w' => ∃ v, e = .returned v ∧ w'.ownsRow w.heap.size 22 1 v f.vals.length (f.vals.map (Value.int .u64)) ∧ Below w.heap.size w w' := by
  obtain ⟨i0, hi, hz0, hz1, hz2⟩ := info_parts info_w64
  have HV := hide (fun (k : Nat) (hk : k < 3) W => rvalue_at A f k W (wf_of_bd ⟨by omega, by omega⟩))
  have H3 := hide (valsTo_three f)
  have HLE := hide (valsTo_length f)
  generalize hvt : valsTo f = vt at *
  have HS : Hid (∀ k, vt (k + 1) = addNew (vt k) (f.value k)) := fun k => by rw [← hvt]; rfl
  have h0 : vt 0 = [] := by rw [← hvt]; rfl
  obtain ⟨fa, fl, ff, fs, ft⟩ := f
  show Calls Try.prog 10 #[.agg #[.int .i64 A, .int .u64 fl, .bool ff, .int .u64 fs, .int .u64 ft]] w _
  obtain ⟨W, hW⟩ : ∃ W, W = w.alloc (.cells #[.int .i64 A, .int .u64 fl, .bool ff, .int .u64 fs, .int .u64 ft] 24) := ⟨_, rfl⟩
  have hnew : W.heap[w.heap.size]? = some (.cells #[.int .i64 A, .int .u64 fl, .bool ff, .int .u64 fs, .int .u64 ft] 24 (0, 0)) := by rw [hW]; exact heap_alloc_new _ _
  have hbW : Below w.heap.size w W := by rw [hW]; exact (Below.refl _ _).alloc (Nat.le_refl _) _
  have hszW : W.heap.size = w.heap.size + 1 := by rw [hW]; simp
  have HNEW := hide hnew
  have HBW := hide hbW
  clear hnew hbW hvt
  go_enter Try.func10, Try.ntmps10
  go_wp2_with fail
  rw [← hW]
  clear hW
  go_loopw [3, 4] (fun v i wr => ∃ k : Nat, k ≤ 3 ∧ i = .int .i64 k ∧ wr.ownsRow W.heap.size 22 1 v (vt k).length ((vt k).map (Value.int .u64)) ∧ Below W.heap.size W wr) (fun _ i _ => 3 - (intOf i).toNat)
  case atStart => exact ⟨0, by omega, rfl, by rw [h0]; exact ⟨rfl, .inl ⟨rfl, rfl⟩⟩, Below.refl _ _⟩
  case round =>
    obtain ⟨k, hk, rfl, hown, hb⟩ := hrel
    have HO := hide hown
    have HB := hide hb
    have hvl := HLE.out k
    clear hown hb
    by_cases hlt : k < 3
    · have hk3 : (k : Int) < 3 := by omega
      have hblk := (HB.out.block w.heap.size (by omega)).trans HNEW.out
      have t0 : wr.cell? ⟨w.heap.size, 0, none⟩ = some (.int .i64 A) := by simp [World.cell?, hblk]
      have t1 : wr.cell? ⟨w.heap.size, 1, none⟩ = some (.int .u64 fl) := by simp [World.cell?, hblk]
      have t2 : wr.cell? ⟨w.heap.size, 2, none⟩ = some (.bool ff) := by simp [World.cell?, hblk]
      have t3 : wr.cell? ⟨w.heap.size, 3, none⟩ = some (.int .u64 fs) := by simp [World.cell?, hblk]
      have t4 : wr.cell? ⟨w.heap.size, 4, none⟩ = some (.int .u64 ft) := by simp [World.cell?, hblk]
      clear hblk
      have HVA := hide (HV.out k hlt wr)
      have HSK := hide (HS.out k)
      generalize Pm.F.value ⟨fa, fl, ff, fs, ft⟩ k = y at *
      go_wp2_with fail
      refine HVA.out.mono ?_
      rintro e w1 ⟨rfl, hb1⟩
      obtain ⟨oa, oc, rfl⟩ := own_len HO.out
      have HO1 : Hid (w1.ownsRow W.heap.size 22 1 (.slice oa (vt k).length oc) (vt k).length ((vt k).map (Value.int .u64))) := by
        refine ⟨HO.out.1, ?_⟩
        rcases HO.out.2 with q | ⟨g, cap, cur, q1, q2, q3, q4⟩
        · exact .inl q
        · exact .inr ⟨g, cap, cur, q1, q2, (hb1.block g (Array.getElem?_eq_some_iff.1 q3).1).trans q3, q4⟩
      have HB1 := hide (HB.out.trans (hb1.mono HB.out.size))
      clear hb1 t0 t1 t2 t3 t4
      generalize hL : vt k = L at *
      have HLL := hide hL
      clear hL
      go_wp2_with fail
      go_loopw [6, 7] (fun u i wx => ∃ j : Nat, j ≤ L.length ∧ i = .int .i64 j ∧ u = .bool ((L.take j).any (· == y)) ∧ wx = w1) (fun _ i _ => L.length - (intOf i).toNat)
      case atStart => exact ⟨0, Nat.zero_le _, rfl, by simp, rfl⟩
      case round =>
        obtain ⟨j, hj, rfl, rfl, rfl⟩ := hrel
        by_cases hjl : j < L.length
        · have hjn : (j : Int) < (L.length : Int) := by omega
          obtain ⟨g, cp, hv, hle, hBg, hgw, hcells⟩ := own_cells HO1.out (by omega)
          cases hv
          have hcj := hcells j hjl
          have hnx : (L.take (j + 1)).any (· == y) = ((L.take j).any (· == y) || (L.getD j 0 == y)) := by
            rw [List.take_add_one, List.any_append, List.getElem?_eq_getElem hjl, List.getD_eq_getElem?_getD, List.getElem?_eq_getElem hjl]
            simp
          have HNX := hide hnx
          clear hcells hnx
          generalize L.getD j 0 = z at *
          cases hany : (L.take j).any (· == y) with
          | true =>
            rw [hany] at HNX
            go_wp2_with fail
            go_roundw
            case rel => exact ⟨j + 1, by omega, by go_num, by rw [HNX.out]; rfl, trivial⟩
            case measure => simp [intOf]; omega
          | false =>
            rw [hany, Bool.false_or] at HNX
            go_wp2_with fail
            go_roundw
            case rel => exact ⟨j + 1, by omega, by go_num, by rw [HNX.out], trivial⟩
            case measure => simp [intOf]; omega
        · have hjn : ¬ (j : Int) < (L.length : Int) := by omega
          obtain rfl : j = L.length := by omega
          rw [List.take_length]
          by_cases hm : y ∈ L
          · have hany : L.any (· == y) = true := List.any_eq_true.2 ⟨y, hm, by simp⟩
            have HN : Hid (vt (k + 1) = L) := by
              show _ = _
              rw [HSK.out]
              unfold addNew
              rw [if_pos hm]
            rw [hany]
            go_wp2_with fail
            go_roundw
            case rel => exact ⟨k + 1, by omega, by go_num, by rw [HN.out]; exact HO1.out, HB1.out⟩
            case measure => simp [intOf]; omega
          · have hany : L.any (· == y) = false := by
              rw [List.any_eq_false]
              intro x hx e
              have e : x = y := by simpa using e
              exact hm (e ▸ hx)
            have HN : Hid (vt (k + 1) = L ++ [y]) := by
              show _ = _
              rw [HSK.out]
              unfold addNew
              rw [if_neg hm]
            rw [hany]
            have hsz := HB1.out.size
            go_wp2_with (at_builtin; refine wpList_append_own _ rfl _ _ 26 rfl W.heap.size 22 i0 _ 1 8 Try.underlying26 hi hz0 hz1 hz2 rfl (by decide) (.slice oa L.length oc) L.length (L.map (Value.int .u64)) rfl (HO1.out.alloc _) ⟨wr.heap.size, 0, none⟩ 1 1 [.int .u64 y] rfl rfl (cell_one_new _ _ _) (by simp [Value.oneCell']) (by unfold maxLen; omega) (by omega) (by simp; omega) ?_; intro v' w2 hown2 hgrow hiff)
            have HBN : Hid (Below W.heap.size W w2) := by
              refine ((HB1.out.alloc hsz _).grown hgrow (by simp; omega) (fun q hq => ?_))
              rcases HO1.out.2 with ⟨e, _⟩ | ⟨g, c, cur, e, hBg, _⟩
              · rw [e] at hq
                simp [Value.ownBlock] at hq
              · rw [e] at hq
                simp [Value.ownBlock] at hq
                omega
            have HON := hide hown2
            clear hown2 hgrow hiff
            go_wp2_with fail
            go_roundw
            case rel => exact ⟨k + 1, by omega, by go_num, by rw [HN.out, List.length_append, List.map_append]; exact HON.out, HBN.out⟩
            case measure => simp [intOf]; omega
    · have hk3 : ¬ (k : Int) < 3 := by omega
      obtain rfl : k = 3 := by omega
      go_wp2_with fail
      go_ret
      refine ⟨_, rfl, ?_, HBW.out.trans (HB.out.mono HBW.out.size)⟩
      have ho := HO.out
      rw [H3.out] at ho
      refine ⟨ho.1, ?_⟩
      rcases ho.2 with q | ⟨g, cap, cur, q1, q2, q3⟩
      · exact .inl q
      · exact .inr ⟨g, cap, cur, q1, by omega, q3⟩
theorem rvalues_any (f : Pm.F) (w : World) (hw0 : (Lit.int .u64 f.lasts).wf = true) (hw1 : (Lit.int .u64 f.sent).wf = true) (hw2 : (Lit.int .u64 f.stored).wf = true) :
    Calls Try.prog 10 #[.agg (fateV f).toArray] w fun e w' => ∃ v, e = .returned v ∧ w'.ownsRow w.heap.size 22 1 v f.vals.length (f.vals.map (Value.int .u64)) ∧ Below w.heap.size w w' := rvalues_at f.at' f w hw0 hw1 hw2
end Go.Proofs.Ytnaenokegomoeaa
