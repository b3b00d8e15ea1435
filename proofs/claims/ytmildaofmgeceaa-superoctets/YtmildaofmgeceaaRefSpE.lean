/-
  The document's answers (layer 13): Same; '==' on geometries.
-/
import Derived.Test.YtmildaofmgeceaaRefSpD
namespace Go.Proofs.Ytmildaofmgeceaa
set_option linter.unusedVariables false
set_option linter.unusedSimpArgs false
open Go.RowKit

/-- '==' on two geometries. -/
theorem run_eql_geometry (b s g b' s' g' : Int) (w : World) : (binOp .eql 23 (.agg #[.int .i64 b, .int .i64 s, .int .i64 g]) (.agg #[.int .i64 b', .int .i64 s', .int .i64 g'])).run Try.prog w = .ok (.bool (decide (b = b' ∧ s = s' ∧ g = g'))) w := by
  have hf : (Try.prog.fieldsOf 23).toList = [{ name := "Blocks", type := 3, offset := 0, byteOffset := 0, embedded := false, tag := "", pkgPath := "" }, { name := "Slots", type := 3, offset := 1, byteOffset := 8, embedded := false, tag := "", pkgPath := "" }, { name := "Gens", type := 3, offset := 2, byteOffset := 16, embedded := false, tag := "", pkgPath := "" }] := by kernel_rfl
  have h0 : ∀ (x y z : Int) W, (_root_.Go.part 3 #[.int .i64 x, .int .i64 y, .int .i64 z] 0).run Try.prog W = .ok (.int .i64 x) W := fun x y z W => by
    simp [_root_.Go.part, isAgg, run_underlying Try.underlying3]
  have h1 : ∀ (x y z : Int) W, (_root_.Go.part 3 #[.int .i64 x, .int .i64 y, .int .i64 z] 1).run Try.prog W = .ok (.int .i64 y) W := fun x y z W => by
    simp [_root_.Go.part, isAgg, run_underlying Try.underlying3]
  have h2 : ∀ (x y z : Int) W, (_root_.Go.part 3 #[.int .i64 x, .int .i64 y, .int .i64 z] 2).run Try.prog W = .ok (.int .i64 z) W := fun x y z W => by
    simp [_root_.Go.part, isAgg, run_underlying Try.underlying3]
  rw [run_eql_struct, run_equalIn_agg w 9999 23 _ _ (by kernel_rfl) (by kernel_rfl), hf]
  by_cases e0 : b = b'
  · by_cases e1 : s = s'
    · by_cases e2 : g = g'
      · subst e0 e1 e2
        simp [Op.eqFields, Sem.run_bind, h0, h1, h2, run_equalIn_int _ 9998 3 .i64 .i64 _ _ Try.underlying3]
      · simp [Op.eqFields, Sem.run_bind, h0, h1, h2, e0, e1, e2, run_equalIn_int _ 9998 3 .i64 .i64 _ _ Try.underlying3]
    · simp [Op.eqFields, Sem.run_bind, h0, h1, h2, e0, e1, run_equalIn_int _ 9998 3 .i64 .i64 _ _ Try.underlying3]
  · simp [Op.eqFields, Sem.run_bind, h0, h1, h2, e0, run_equalIn_int _ 9998 3 .i64 .i64 _ _ Try.underlying3]

set_option maxRecDepth 100000 in
set_option maxHeartbeats 2000000 in
theorem rspsame_any (s t : Sp.S) (w : World) (a a' : Option Addr) (len cap len' cap' : Nat) (hA : Arg .i64 w a len cap s.charts) (hl : len ≤ 1000000) (hA' : Arg .i64 w a' len' cap' t.charts) (hl' : len' ≤ 1000000) :
    Calls Try.prog 13 #[.agg (superC s a len cap), .agg (superC t a' len' cap')] w fun e w' => e = .returned (.bool (Sp.same s t)) ∧ Below w.heap.size w w' := by
  obtain ⟨X, hX⟩ : ∃ X, X = ((w.alloc (.cells (superC s a len cap) 28)).alloc (.cells (superC t a' len' cap') 28)) := ⟨_, rfl⟩
  have hb : Below w.heap.size w X := by rw [hX]; exact ((Below.refl w.heap.size w).alloc (Nat.le_refl _) _).alloc (by simp) _
  have HI := hide (ints_any (cap := cap) (cap' := cap') hl hl' (hA.2.2.1.below hb) (hA'.2.2.1.below hb))
  have HB := hide hb
  have hga : X.heap[w.heap.size]? = some (.cells (superC s a len cap) 28 (0, 0)) := by
    rw [hX, Below.heap_alloc _ _ _ (by simp)]
    exact heap_alloc_new w _
  have hgb : X.heap[w.heap.size + 1]? = some (.cells (superC t a' len' cap') 28 (0, 0)) := by
    rw [hX]
    have := heap_alloc_new (w.alloc (.cells (superC s a len cap) 28)) (.cells (superC t a' len' cap') 28)
    simpa using this
  obtain ⟨a0, a1, a2, a3, a4, a5, a6, a7, a8⟩ := super_cells hga
  obtain ⟨b0, b1, b2, b3, b4, b5, b6, b7, b8⟩ := super_cells hgb
  obtain ⟨V, hV⟩ : ∃ V, V = Sp.same s t := ⟨_, rfl⟩
  rw [← hV]
  unfold Sp.same at hV
  obtain ⟨ep, bl, sl, ge, tp, hi, fr, di, cs⟩ := s
  obtain ⟨ep', bl', sl', ge', tp', hi', fr', di', cs'⟩ := t
  dsimp only at hV HI a0 a1 a2 a3 a4 a5 a6 a7 a8 b0 b1 b2 b3 b4 b5 b6 b7 b8
  have HGE := fun W => run_eql_geometry bl sl ge bl' sl' ge' W
  rw [hX] at a0 a1 a2 a3 a4 a5 a6 a7 a8 b0 b1 b2 b3 b4 b5 b6 b7 b8
  clear hA hA' hb hga hgb
  by_cases e0 : ep = ep'
  · by_cases e1 : bl = bl' ∧ sl = sl' ∧ ge = ge'
    · rw [decide_eq_true e1] at HGE
      by_cases e2 : hi = hi'
      · by_cases e3 : fr = fr'
        · by_cases e4 : tp = tp'
          · by_cases e5 : di = di'
            · have HV : Hid (V = decide (cs = cs')) := by show V = _; rw [hV]; simp [e0, e1, e2, e3, e4, e5]
              rw [← HV.out] at HI
              subst e0 e2 e3 e4 e5
              clear hV e1
              go_enter Try.func13, Try.ntmps13
              go_wp2_with fail
              rw [← hX]
              refine HI.out.mono ?_
              rintro e w5 ⟨rfl, hb5⟩
              have HB5 := hide (HB.out.trans (hb5.mono HB.out.size))
              clear hb5
              go_wp2_with fail
              go_ret
              exact ⟨rfl, HB5.out⟩
            · have HV : Hid (V = false) := by show V = _; rw [hV]; exact decide_eq_false fun h => e5 h.2.2.2.2.2.1
              have n1 : (di == di') = false := by simpa using e5
              subst e0 e2 e3 e4
              clear hV HI e1 e5
              go_enter Try.func13, Try.ntmps13
              go_wp2_with fail
              go_ret
              rw [← hX]
              exact ⟨by rw [HV.out]; rfl, HB.out⟩
          · have HV : Hid (V = false) := by show V = _; rw [hV]; exact decide_eq_false fun h => e4 h.2.2.2.2.1
            have n1 : (tp == tp') = false := by simpa using e4
            subst e0 e2 e3
            clear hV HI e1 e4
            go_enter Try.func13, Try.ntmps13
            go_wp2_with fail
            go_ret
            rw [← hX]
            exact ⟨by rw [HV.out]; rfl, HB.out⟩
        · have HV : Hid (V = false) := by show V = _; rw [hV]; exact decide_eq_false fun h => e3 h.2.2.2.1
          have n1 : (fr == fr') = false := by simpa using e3
          subst e0 e2
          clear hV HI e1 e3
          go_enter Try.func13, Try.ntmps13
          go_wp2_with fail
          go_ret
          rw [← hX]
          exact ⟨by rw [HV.out]; rfl, HB.out⟩
      · have HV : Hid (V = false) := by show V = _; rw [hV]; exact decide_eq_false fun h => e2 h.2.2.1
        have n1 : (hi == hi') = false := by simpa using e2
        subst e0
        clear hV HI e1 e2
        go_enter Try.func13, Try.ntmps13
        go_wp2_with fail
        go_ret
        rw [← hX]
        exact ⟨by rw [HV.out]; rfl, HB.out⟩
    · have HV : Hid (V = false) := by show V = _; rw [hV]; exact decide_eq_false fun h => e1 h.2.1
      rw [decide_eq_false e1] at HGE
      subst e0
      clear hV HI e1
      go_enter Try.func13, Try.ntmps13
      go_wp2_with fail
      go_ret
      rw [← hX]
      exact ⟨by rw [HV.out]; rfl, HB.out⟩
  · have HV : Hid (V = false) := by show V = _; rw [hV]; exact decide_eq_false fun h => e0 h.1
    have n1 : (ep == ep') = false := by simpa using e0
    clear hV HI e0
    go_enter Try.func13, Try.ntmps13
    go_wp2_with fail
    go_ret
    rw [← hX]
    exact ⟨by rw [HV.out]; rfl, HB.out⟩
end Go.Proofs.Ytmildaofmgeceaa
