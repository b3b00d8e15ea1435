/-
  fate.once, fate.Values.
-/
import Derived.Test.YtnaenokegomoeaaRefFtA
import Derived.Test.YtnaenokegomoeaaFtA
namespace Go.Proofs.Ytnaenokegomoeaa
set_option linter.unusedVariables false
set_option linter.unusedSimpArgs false
open Go.RowKit

set_option maxHeartbeats 1000000 in
theorem once_any {B : Nat} {w : World} {v : Value} {L : List Int} (x : Int) (hB : B ≤ w.heap.size) (hl : L.length ≤ 1000) (hown : w.ownsRow B 22 1 v L.length (L.map (Value.int .u64))) :
    Calls Try.prog 28 #[v, .int .u64 x] w fun e w' => ∃ v', e = .returned v' ∧ w'.ownsRow B 22 1 v' (addNew L x).length ((addNew L x).map (Value.int .u64)) ∧ Below B w w' := by
  obtain ⟨i0, hi, hz0, hz1, hz2⟩ := info_parts info_w64
  have HO := hide hown
  obtain ⟨a, cap, rfl, hlc, hcm, _, hr⟩ := row_of_own hown
  have HC := hide (contains_any a L.length cap L x w (by omega) hr)
  clear hown hr
  by_cases hm : x ∈ L
  · have HD : Hid (decide (x ∈ L) = true) := decide_eq_true hm
    have HN : Hid (addNew L x = L) := by
      show _ = _
      unfold addNew
      rw [if_pos hm]
    rw [HD.out] at HC
    clear hm
    go_enter Try.func28, Try.ntmps28
    go_wp2_with fail
    refine HC.out.mono ?_
    rintro e w1 ⟨rfl, hw⟩
    obtain rfl := hw.symm
    go_wp2_with fail
    go_ret
    exact ⟨_, rfl, by rw [HN.out]; exact HO.out, Below.refl _ _⟩
  · have HD : Hid (decide (x ∈ L) = false) := decide_eq_false hm
    have HN : Hid (addNew L x = L ++ [x]) := by
      show _ = _
      unfold addNew
      rw [if_neg hm]
    rw [HD.out] at HC
    clear hm
    go_enter Try.func28, Try.ntmps28
    go_wp2_with fail
    refine HC.out.mono ?_
    rintro e w1 ⟨rfl, hw⟩
    obtain rfl := hw.symm
    go_wp2_with (at_builtin; refine wpList_append_own _ rfl _ _ 26 rfl B 22 i0 _ 1 8 Try.underlying26 hi hz0 hz1 hz2 rfl (by decide) (.slice a L.length cap) L.length (L.map (Value.int .u64)) rfl (HO.out.alloc _) ⟨w.heap.size, 0, none⟩ 1 1 [.int .u64 x] rfl rfl (cell_one_new _ _ _) (by simp [Value.oneCell']) (by unfold maxLen; omega) (by omega) (by simp; omega) ?_; intro v' w2 hown2 hgrow hiff)
    have HBN : Hid (Below B w w2) := by
      refine (((Below.refl B w).alloc hB _).grown hgrow (by simp; omega) (fun q hq => ?_))
      rcases HO.out.2 with ⟨e, _⟩ | ⟨g, c, cur, e, hBg, _⟩
      · rw [e] at hq
        simp [Value.ownBlock] at hq
      · rw [e] at hq
        simp [Value.ownBlock] at hq
        omega
    have HON := hide hown2
    clear hown2 hgrow hiff
    go_wp2_with fail
    go_ret
    exact ⟨_, rfl, by rw [HN.out, List.length_append, List.map_append]; exact HON.out, HBN.out⟩

theorem vals_once (f : Pm.F) : addNew (if f.flushed = true then addNew [f.lasts] f.sent else [f.lasts]) f.stored = f.vals := by
  have e0 : f.value 0 = f.lasts := rfl
  have e1 : f.value 1 = if f.flushed = true then f.sent else f.lasts := by
    unfold Pm.F.value
    cases f.flushed <;> rfl
  have e2 : f.value 2 = f.stored := rfl
  unfold Pm.F.vals
  rw [e0, e1, e2]
  generalize f.lasts = a
  generalize f.sent = b
  generalize f.stored = c
  cases f.flushed
  · unfold addNew Pm.vals3
    by_cases h : c = a
    · simp [h]
    · simp [h]
  · unfold addNew Pm.vals3
    by_cases h1 : b = a
    · by_cases h2 : c = a
      · simp [h1, h2]
      · simp [h1, h2]
    · by_cases h2 : c = a
      · simp [h1, h2]
      · by_cases h3 : c = b
        · simp [h1, h2, h3]
        · simp [h1, h2, h3]

theorem one_owned (w : World) (x : Int) (B : Nat) (hB : B ≤ w.heap.size) : (w.alloc (.cells #[.int .u64 x] 22)).ownsRow B 22 1 (.slice (some ⟨w.heap.size, 0, none⟩) 1 1) [x].length ([x].map (Value.int .u64)) :=
  ⟨rfl, .inr ⟨w.heap.size, 1, #[.int .u64 x], rfl, hB, heap_alloc_new w _, Nat.le_refl _, by decide, rfl, rfl⟩⟩

set_option maxHeartbeats 2000000 in
theorem values_at (A : Int) (f : Pm.F) (w : World) :
    Calls Try.prog 9 #[.agg (fateA A f).toArray] w fun e w' => ∃ v, e = .returned v ∧ w'.ownsRow w.heap.size 22 1 v f.vals.length (f.vals.map (Value.int .u64)) ∧ Below w.heap.size w w' := by
  have HV := hide (vals_once f)
  generalize f.vals = V at *
  obtain ⟨fa, fl, ff, fs, ft⟩ := f
  simp only at HV
  show Calls Try.prog 9 #[.agg #[.int .i64 A, .int .u64 fl, .bool ff, .int .u64 fs, .int .u64 ft]] w _
  obtain ⟨W, hW⟩ : ∃ W, W = w.alloc (.cells #[.int .i64 A, .int .u64 fl, .bool ff, .int .u64 fs, .int .u64 ft] 24) := ⟨_, rfl⟩
  have hbW : Below w.heap.size w W := by rw [hW]; exact (Below.refl _ _).alloc (Nat.le_refl _) _
  have hszW : W.heap.size = w.heap.size + 1 := by rw [hW]; simp
  obtain ⟨W2, hW2⟩ : ∃ W2, W2 = W.alloc (.cells #[.int .u64 fl] 22) := ⟨_, rfl⟩
  have hb2 : Below (w.heap.size + 1) W W2 := by rw [hW2]; exact (Below.refl _ _).alloc (by omega) _
  have hsz2 : W2.heap.size = w.heap.size + 2 := by rw [hW2]; simp; omega
  have hown : W2.ownsRow (w.heap.size + 1) 22 1 (.slice (some ⟨w.heap.size + 1, 0, none⟩) 1 1) [fl].length ([fl].map (Value.int .u64)) := by
    have := one_owned W fl (w.heap.size + 1) (by omega)
    rw [hszW, ← hW2] at this
    exact this
  have HCL : Hid (∀ w', Below (w.heap.size + 1) W w' → w'.cell? ⟨w.heap.size, 4, none⟩ = some (.int .u64 ft)) := fun w' hb => by
    have hnew : W.heap[w.heap.size]? = some (.cells #[.int .i64 A, .int .u64 fl, .bool ff, .int .u64 fs, .int .u64 ft] 24 (0, 0)) := by rw [hW]; exact heap_alloc_new _ _
    have := (hb.block w.heap.size (by omega)).trans hnew
    simp [World.cell?, this]
  have HBW := hide hbW
  have HB2 := hide hb2
  have HO := hide hown
  have HEQ : Hid (W2 = (w.alloc (.cells #[.int .i64 A, .int .u64 fl, .bool ff, .int .u64 fs, .int .u64 ft] 24)).alloc (.cells #[.int .u64 fl] 22)) := by
    show _ = _
    rw [hW2, hW]
  have HEND : Hid (∀ v w', w'.ownsRow (w.heap.size + 1) 22 1 v V.length (V.map (Value.int .u64)) → Below (w.heap.size + 1) W w' → w'.ownsRow w.heap.size 22 1 v V.length (V.map (Value.int .u64)) ∧ Below w.heap.size w w') := fun v w' ho hb => by
    refine ⟨⟨ho.1, ?_⟩, HBW.out.trans (hb.mono (by omega))⟩
    rcases ho.2 with q | ⟨g, cap, cur, q1, q2, q3⟩
    · exact .inl q
    · exact .inr ⟨g, cap, cur, q1, by omega, q3⟩
  clear hW hW2 hbW hb2 hown
  cases ff with
  | true =>
    rw [if_pos rfl] at HV
    go_enter Try.func9, Try.ntmps9
    go_wp2_with fail
    rw [← HEQ.out]
    refine (once_any fs (by omega) (by simp) HO.out).mono ?_
    rintro e w3 ⟨v3, rfl, ho3, hb3⟩
    have HO3 := hide ho3
    have HB3 := hide (HB2.out.trans hb3)
    have t4 := HCL.out w3 (HB2.out.trans hb3)
    have hs3 := hb3.size
    clear ho3 hb3
    go_wp2_with fail
    refine (once_any ft (by omega) (by unfold addNew; split <;> simp) HO3.out).mono ?_
    rintro e w4 ⟨v4, rfl, ho4, hb4⟩
    rw [HV.out] at ho4
    have HE := hide (HEND.out _ _ ho4 (HB3.out.trans hb4))
    clear ho4 hb4
    go_wp2_with fail
    go_ret
    exact ⟨_, rfl, HE.out.1, HE.out.2⟩
  | false =>
    rw [if_neg (by decide)] at HV
    have t4 := HCL.out W2 HB2.out
    rw [HEQ.out] at t4
    go_enter Try.func9, Try.ntmps9
    go_wp2_with fail
    rw [← HEQ.out]
    refine (once_any ft (by omega) (by simp) HO.out).mono ?_
    rintro e w4 ⟨v4, rfl, ho4, hb4⟩
    rw [HV.out] at ho4
    have HE := hide (HEND.out _ _ ho4 (HB2.out.trans hb4))
    clear ho4 hb4
    go_wp2_with fail
    go_ret
    exact ⟨_, rfl, HE.out.1, HE.out.2⟩
theorem values_any (f : Pm.F) (w : World) :
    Calls Try.prog 9 #[.agg (fateV f).toArray] w fun e w' => ∃ v, e = .returned v ∧ w'.ownsRow w.heap.size 22 1 v f.vals.length (f.vals.map (Value.int .u64)) ∧ Below w.heap.size w w' := values_at f.at' f w
end Go.Proofs.Ytnaenokegomoeaa
