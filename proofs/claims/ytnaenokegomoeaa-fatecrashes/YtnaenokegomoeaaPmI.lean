/-
  slices.Clone; the program's device (layer 5): Plan.
-/
import Derived.Test.YtnaenokegomoeaaPmH
import Derived.Test.YtnaenokegomoeaaClones
import Derived.Lib.SliceRun
namespace Go.Proofs.Ytnaenokegomoeaa
set_option linter.unusedVariables false
set_option linter.unusedSimpArgs false
open Go.RowKit

set_option maxRecDepth 100000 in
set_option maxHeartbeats 1000000 in
theorem clonei_some {w : World} {x : Addr} {len cap : Nat} {l : List Int} (hA : Arg .i64 w (some x) len cap l) (hl : len ≤ 1000000) :
    Calls Try.prog 70 #[.slice (some x) len cap] w fun e w' => ∃ g cap' tail, e = .returned (.slice (some ⟨g, 0, none⟩) len cap') ∧ Below w.heap.size w w' ∧ w.heap.size ≤ g ∧ w'.heap[g]? = some (.cells (l.map (Value.int .i64) ++ tail).toArray 3 (0, 0)) ∧ len ≤ cap' ∧ cap' ≤ maxLen := by
  have HA := hide hA
  clear hA
  have hnil := Lib.run_eql_slice_nil (P := Try.prog) w 39 3 (some x) len cap 0 0 Try.underlying39
  go_enter Try.func70, Try.ntmps70
  go_wp2_with (at_builtin; refine wpList_clone_int rfl _ _ rfl w.heap.size rfl ?q1 w.heap.size w ?q2 (Nat.le_refl _) (some x) len cap l rfl ?q3 (by omega) ?_)
  case q1 => exact heap_alloc_new _ _
  case q2 => exact (Below.refl _ _).alloc (Nat.le_refl _) _
  case q3 => exact HA.out.below ((Below.refl _ _).alloc (Nat.le_refl _) _)
  intro g cap' tail w1 hb1 hBg hg hle hmax
  have HB1 := hide hb1
  have HG := hide hg
  clear hb1 hg
  go_wp2_with fail
  go_ret
  exact ⟨g, cap', tail, rfl, HB1.out, hBg, HG.out, hle, hmax⟩

theorem clonei_none (w : World) : Calls Try.prog 70 #[.slice none 0 0] w fun e w' => e = .returned (.slice none 0 0) ∧ w' = w := by
  have hnil := Lib.run_eql_slice_nil (P := Try.prog) w 39 3 none 0 0 0 0 Try.underlying39
  go_enter Try.func70, Try.ntmps70
  go_wp2
  go_ret
  exact ⟨rfl, rfl⟩

set_option maxRecDepth 100000 in
set_option maxHeartbeats 1000000 in
theorem cloneu_some {w : World} {x : Addr} {len cap : Nat} {l : List Int} (hA : Arg .u64 w (some x) len cap l) (hl : len ≤ 1000000) :
    Calls Try.prog 64 #[.slice (some x) len cap] w fun e w' => ∃ g cap' tail, e = .returned (.slice (some ⟨g, 0, none⟩) len cap') ∧ Below w.heap.size w w' ∧ w.heap.size ≤ g ∧ w'.heap[g]? = some (.cells (l.map (Value.int .u64) ++ tail).toArray 22 (0, 0)) ∧ len ≤ cap' ∧ cap' ≤ maxLen := by
  have HA := hide hA
  clear hA
  have hnil := Lib.run_eql_slice_nil (P := Try.prog) w 26 22 (some x) len cap 0 0 Try.underlying26
  go_enter Try.func64, Try.ntmps64
  go_wp2_with (at_builtin; refine wpList_clone_u64 rfl _ _ rfl w.heap.size rfl ?q1 w.heap.size w ?q2 (Nat.le_refl _) (some x) len cap l rfl ?q3 (by omega) ?_)
  case q1 => exact heap_alloc_new _ _
  case q2 => exact (Below.refl _ _).alloc (Nat.le_refl _) _
  case q3 => exact HA.out.below ((Below.refl _ _).alloc (Nat.le_refl _) _)
  intro g cap' tail w1 hb1 hBg hg hle hmax
  have HB1 := hide hb1
  have HG := hide hg
  clear hb1 hg
  go_wp2_with fail
  go_ret
  exact ⟨g, cap', tail, rfl, HB1.out, hBg, HG.out, hle, hmax⟩

/-- a new plan. -/
theorem PX.replan {w : World} {b : Nat} {s : Pm.D} {F : Nat → Prop} {g0 g1 c1 gm n : Nat} {tl : List Value} {M : DataW Unit} {pa : Option Addr} {pc : Nat} {laid : Int} (h : PX w b s F g0 g1 c1 gm n tl M pa pc laid) {F' : Nat → Prop} (hF : ∀ k, F k → F' k) {w1 : World} (hb : Below w.heap.size w w1) {a' : Option Addr} {len cap' : Nat} {l : List Int} (hr : Row .i64 w1 a' len l) (hn : len = 0 ∨ ∃ g, a' = some ⟨g, 0, none⟩ ∧ F' g ∧ w.heap.size ≤ g) (hl : ∀ p ∈ l, -9223372036854775808 ≤ p ∧ p ≤ 9223372036854775807) :
    PX ((w1.setCell ⟨b, 6, none⟩ (.slice a' len cap')).setCell ⟨b, 7, none⟩ (.int .i64 s.steps)) b (Pm.lay s l) F' g0 g1 c1 gm n tl M a' cap' s.steps := by
  have h1 := h.below hb
  obtain ⟨n1, n2, n3, n4, n5, n6⟩ := h.ne
  have l0 := heap_lt h.dev
  have l1 := heap_lt h.k0
  have l2 := heap_lt h.k1
  have l3 := h.mp.lt
  have e1 := heap_set h1.dev 6 (.slice a' len cap')
  have e2 := heap_set e1 7 (.int .i64 s.steps)
  have hlen := hr.1
  have fr : ∀ k, k ≠ b → ((w1.setCell ⟨b, 6, none⟩ (.slice a' len cap')).setCell ⟨b, 7, none⟩ (.int .i64 s.steps)).heap[k]? = w1.heap[k]? := fun k q => by rw [heap_set_other q, heap_set_other q]
  unfold Pm.lay
  refine ⟨?_, ?_, ?_, ?_, h.sent, h.cap, ?_, ?_, ⟨hF _ h.mine.1, hF _ h.mine.2.1, hF _ h.mine.2.2.1, hF _ h.mine.2.2.2⟩, h.ne, .inr (by simp), ⟨by omega, Int.le_refl _⟩, ⟨h.ok.ws, hl, h.ok.left, Nat.zero_le _⟩⟩
  · rw [e2]
    simp only [hlen]
    rfl
  · rw [fr g0 (Ne.symm n1)]; exact h1.k0
  · rw [fr g1 (Ne.symm n2)]; exact h1.k1
  · exact ownsMap_block h1.mp (fr gm (Ne.symm n3))
  · refine ⟨rfl, ?_⟩
    rcases hn with h0 | ⟨g, rfl, _, hg⟩
    · exact .inl (by simp only; omega)
    · rcases hr.2 with h0 | ⟨g', off, e, hlt, hc⟩
      · exact .inl (by simp only; omega)
      · cases e
        refine .inr ⟨g, 0, rfl, by simpa [World.setCell] using hlt, fun i hi => ?_⟩
        rw [World.cell?_of_block (w := w1) (fr g (by omega))]
        exact hc i (by simp only at hi; omega)
  · rcases hn with h0 | ⟨g, rfl, hFg, hg⟩
    · exact .inl (by simp only; omega)
    · exact .inr ⟨g, 0, rfl, hFg, by omega, by omega, by omega, by omega⟩

theorem row_append {k : IntKind} {w : World} {g : Nat} {l : List Int} {tail : List Value} {T : TypeId} (h : w.heap[g]? = some (.cells (l.map (Value.int k) ++ tail).toArray T (0, 0))) {len : Nat} (hl : l.length = len) : Row k w (some ⟨g, 0, none⟩) len l := by
  refine ⟨hl, .inr ⟨g, 0, rfl, heap_lt h, fun i hi => ?_⟩⟩
  simp [World.cell?, h, List.getElem?_append, show i < l.length by omega]

set_option maxRecDepth 100000 in
set_option maxHeartbeats 1000000 in
theorem pplan_x {w : World} {b : Nat} {s : Pm.D} {F : Nat → Prop} {g0 g1 c1 gm n : Nat} {tl : List Value} {M : DataW Unit} {pa : Option Addr} {pc : Nat} {laid : Int} (h : PX w b s F g0 g1 c1 gm n tl M pa pc laid) {a : Option Addr} {len cap : Nat} {l : List Int} (hA : Arg .i64 w a len cap l) (hl : len ≤ 40000) :
    Calls Try.prog 53 #[.pointer (some ⟨b, 0, none⟩), .slice a len cap] w fun e w' => e = .returned (.tuple #[]) ∧ PMid w b (Pm.lay s l) F n w' := by
  have hlb : ∀ p ∈ l, -9223372036854775808 ≤ p ∧ p ≤ 9223372036854775807 := fun p hp => bd_i64 (hA.2.2.2.1 p hp)
  have hlen := hA.2.2.1.1
  have HC : Hid (Calls Try.prog 70 #[.slice a len cap] w fun e w' => ∃ a' cap', e = .returned (.slice a' len cap') ∧ Below w.heap.size w w' ∧ Row .i64 w' a' len l ∧ (len = 0 ∨ ∃ g, a' = some ⟨g, 0, none⟩ ∧ w.heap.size ≤ g ∧ g < w'.heap.size)) := by
    show Calls _ _ _ _ _
    cases a with
    | none =>
      have hc : cap = 0 := by
        rcases hA.2.2.2.2 with h' | ⟨b, off, h'⟩
        · exact h'
        · cases h'
      subst hc
      have hl0 : len = 0 := Nat.le_zero.1 hA.1
      subst hl0
      refine (clonei_none w).mono ?_
      rintro e w' ⟨rfl, rfl⟩
      exact ⟨none, 0, rfl, Below.refl _ _, ⟨hlen, .inl rfl⟩, .inl rfl⟩
    | some x =>
      refine (clonei_some hA (by omega)).mono ?_
      rintro e w' ⟨g, cap', tail, rfl, hb, hBg, hg, hle, hmax⟩
      exact ⟨_, cap', rfl, hb, row_append hg hlen, .inr ⟨g, rfl, hBg, heap_lt hg⟩⟩
  have HD := hide h
  have hbw := heap_lt h.dev
  clear h hA
  go_enter Try.func53, Try.ntmps53
  go_wp2_with fail
  refine HC.out.mono ?_
  rintro e w1 ⟨a', cap', rfl, hb1, hr1, hn1⟩
  have h1 := HD.out.below hb1
  obtain ⟨_, _, _, f3, _, _, f6, f7⟩ := h1.fields
  have z6 := h1.free 6
  have z7 := h1.free 7
  have HB1 := hide hb1
  have HR1 := hide hr1
  have HN1 := hide hn1
  clear h1 hb1 hr1 hn1
  go_wp2
  go_end0
  refine ⟨rfl, fun k => F k ∨ (w.heap.size ≤ k ∧ k < w1.heap.size), ⟨g0, g1, c1, gm, n, tl, M, a', cap', s.steps, HD.out.replan (fun k hk => .inl hk) HB1.out HR1.out ?_ hlb, Nat.le_refl _⟩, ?_, fun k hk => .inl hk, ?_⟩
  · rcases HN1.out with h0 | ⟨g, rfl, q1, q2⟩
    · exact .inl h0
    · exact .inr ⟨g, rfl, .inr ⟨q1, q2⟩, q1⟩
  · intro k hk
    rcases hk with hk | hk
    · exact .inl hk
    · exact .inr (by simpa [World.setCell] using hk)
  · exact ((Only.of_below HB1.out).setCell HD.out.mine.1 _).setCell HD.out.mine.1 _
end Go.Proofs.Ytnaenokegomoeaa
