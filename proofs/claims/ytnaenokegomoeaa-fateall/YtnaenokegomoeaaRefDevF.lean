/-
  The document's device (layer 5): Value, Lay.
-/
import Derived.Test.YtnaenokegomoeaaRefDevE
import Derived.Test.YtnaenokegomoeaaRest
import Derived.Test.YtnaenokegomoeaaClones
namespace Go.Proofs.Ytnaenokegomoeaa
set_option linter.unusedVariables false
set_option linter.unusedSimpArgs false
open Go.RowKit

/-- a fate as a value. -/
def fateV (f : Pm.F) : List Value := [.int .i64 f.at', .int .u64 f.lasts, .bool f.flushed, .int .u64 f.sent, .int .u64 f.stored]

set_option maxHeartbeats 1000000 in
/-- the document's Value. -/
theorem rvalue_any (f : Pm.F) (n : Int) (w : World) (hn : (Lit.int .i64 n).wf = true) :
    Calls Try.prog 29 #[.agg (fateV f).toArray, .int .i64 n] w fun e w' => e = .returned (.int .u64 (f.value n)) ∧ Below w.heap.size w w' := by
  have HR := hide (fun W => rest_any n 3 W (by decide) (by decide) hn)
  have h3 : n % 3 = 0 ∨ n % 3 = 1 ∨ n % 3 = 2 := by omega
  obtain ⟨a, l, fl, se, st⟩ := f
  show Calls Try.prog 29 #[.agg #[.int .i64 a, .int .u64 l, .bool fl, .int .u64 se, .int .u64 st], .int .i64 n] w _
  have HBL := hide (fun o => (Below.refl w.heap.size w).alloc (Nat.le_refl _) o)
  clear hn
  have hv : (n % 3 = 0 ∧ Pm.F.value ⟨a, l, fl, se, st⟩ n = l) ∨ (n % 3 = 1 ∧ fl = true ∧ Pm.F.value ⟨a, l, fl, se, st⟩ n = se) ∨ (n % 3 = 1 ∧ fl = false ∧ Pm.F.value ⟨a, l, fl, se, st⟩ n = l) ∨ (n % 3 = 2 ∧ Pm.F.value ⟨a, l, fl, se, st⟩ n = st) := by
    unfold Pm.F.value
    rcases h3 with h | h | h
    · simp [h]
    · cases fl <;> simp [h]
    · simp [h]
  clear h3
  rcases hv with ⟨h, hv⟩ | ⟨h, rfl, hv⟩ | ⟨h, rfl, hv⟩ | ⟨h, hv⟩
  all_goals
    have HV := hide hv
    rw [h] at HR
    clear h hv
    go_enter Try.func29, Try.ntmps29
    go_wp2_with fail
    refine (HR.out _).mono ?_
    rintro e w1 ⟨rfl, hw⟩
    obtain rfl := hw.symm
    go_wp2_with fail
    go_ret
    exact ⟨by rw [HV.out]; rfl, HBL.out _⟩

/-- another plan. -/
theorem RDev.replan {w : World} {b : Nat} {s : Pm.D} {F F' : Nat → Prop} {g0 g1 g2 g3 : Nat} {pa : Option Addr} {pc : Nat} (h : RDev w b s F g0 g1 g2 g3 pa pc) (hF : ∀ k, F k → F' k) {g len cap : Nat} {l : List Int} {tail : List Value} {T : TypeId} (hg : w.heap[g]? = some (.cells (l.map (Value.int .i64) ++ tail).toArray T (0, 0))) (hFg : F' g)
    (hne : g ≠ b ∧ g ≠ g0 ∧ g ≠ g1 ∧ g ≠ g2 ∧ g ≠ g3) (hlen : l.length = len) (hl : ∀ p ∈ l, -9223372036854775808 ≤ p ∧ p ≤ 9223372036854775807) :
    RDev ((w.setCell ⟨b, 4, none⟩ (.slice (some ⟨g, 0, none⟩) len cap)).setCell ⟨b, 5, none⟩ (.int .i64 0)) b (Pm.lay s l) F' g0 g1 g2 g3 (some ⟨g, 0, none⟩) cap := by
  obtain ⟨n1, n2, n3, n4, n5, n6, n7, n8, n9, n10⟩ := h.ne
  obtain ⟨m1, m2, m3, m4, m5⟩ := h.mine
  subst hlen
  have e1 := heap_set h.dev 4 (.slice (some ⟨g, 0, none⟩) l.length cap)
  have e2 := heap_set e1 5 (.int .i64 0)
  refine ⟨?_, ?_, ?_, ?_, ?_, ⟨rfl, .inr ⟨g, 0, rfl, ?_, fun i hi => ?_⟩⟩, .inr ⟨g, 0, rfl, hFg, hne⟩, ⟨hF _ m1, hF _ m2, hF _ m3, hF _ m4, hF _ m5⟩, h.ne, Pm.lay_ok h.ok hl⟩
  · rw [e2]
    rfl
  · rw [heap_set_other (Ne.symm n1), heap_set_other (Ne.symm n1)]; exact h.c0
  · rw [heap_set_other (Ne.symm n2), heap_set_other (Ne.symm n2)]; exact h.c1
  · rw [heap_set_other (Ne.symm n3), heap_set_other (Ne.symm n3)]; exact h.c2
  · rw [heap_set_other (Ne.symm n4), heap_set_other (Ne.symm n4)]; exact h.c3
  · have := (Array.getElem?_eq_some_iff.1 hg).1
    simpa [World.setCell] using this
  · have hi' : i < l.length := hi
    rw [World.cell?_setCell_other _ _ _ _ (fun e => hne.1 (congrArg Addr.block e).symm), World.cell?_setCell_other _ _ _ _ (fun e => hne.1 (congrArg Addr.block e).symm)]
    have e3 : (l.map (Value.int .i64) ++ tail)[i]? = some (Value.int .i64 l[i]) := by
      rw [List.getElem?_append_left (by simpa using hi')]
      simp [hi']
    simp [World.cell?, hg, hi', Pm.lay, e3]

set_option maxHeartbeats 1000000 in
/-- the document's Lay. -/
theorem rlay_any {w : World} {b : Nat} {s : Pm.D} {F : Nat → Prop} {g0 g1 g2 g3 : Nat} {pa : Option Addr} {pc : Nat} (h : RDev w b s F g0 g1 g2 g3 pa pc) {a : Option Addr} {len cap : Nat} {l : List Int} (hA : Arg .i64 w a len cap l) (hl : len ≤ 40000) :
    Calls Try.prog 59 #[.pointer (some ⟨b, 0, none⟩), .slice a len cap] w fun e w' => e = .returned (.tuple #[]) ∧ (∃ F' pa' pc', RDev w' b (Pm.lay s l) F' g0 g1 g2 g3 pa' pc' ∧ Grows F w F' w' ∧ ∀ k, F k → F' k) ∧ Only F w w' := by
  have HA := hide hA
  have HD := hide h
  have hlen := hA.2.2.1.1
  have hbw : b < w.heap.size := (Array.getElem?_eq_some_iff.1 h.dev).1
  clear hA
  go_enter Try.func59, Try.ntmps59
  go_wp2_with (at_builtin; refine wpList_clone_int rfl _ _ rfl w.heap.size rfl ?q1 w.heap.size w ?q2 (Nat.le_refl _) a len cap l rfl ?q3 (by omega) ?_)
  case q1 => exact heap_alloc_new _ _
  case q2 => exact (Below.refl _ _).alloc (Nat.le_refl _) _
  case q3 => exact HA.out.below ((Below.refl _ _).alloc (Nat.le_refl _) _)
  intro g cap' tail w1 hb1 hBg hg hle hmax
  have HB1 := hide hb1
  have HG := hide hg
  have HDn := hide (HD.out.kept hb1.size (fun k _ hk => hb1.block k hk))
  obtain ⟨f0, f1, f2, f3, f4, f5, f6, f7⟩ := HDn.out.fields
  have z4 := HDn.out.free 4
  have z5 := HDn.out.free 5
  clear hb1 hg h f0 f1 f2 f3 f6 f7
  go_wp2_with fail
  go_end0
  have lt : ∀ {k : Nat} {o : Obj}, w.heap[k]? = some o → k < w.heap.size := fun h => (Array.getElem?_eq_some_iff.1 h).1
  have l0 := lt HD.out.dev
  have l1 := lt HD.out.c0
  have l2 := lt HD.out.c1
  have l3 := lt HD.out.c2
  have l4 := lt HD.out.c3
  have hgw := (Array.getElem?_eq_some_iff.1 HG.out).1
  refine ⟨rfl, ⟨fun k => F k ∨ (w.heap.size ≤ k ∧ k < w1.heap.size), some ⟨g, 0, none⟩, cap', HDn.out.replan (fun k h => .inl h) HG.out (.inr ⟨hBg, hgw⟩) (by omega) hlen (fun p hp => bd_i64 (HA.out.2.2.2.1 p hp)), ?_, fun k h => .inl h⟩, ?_⟩
  · intro k hk
    rcases hk with hk | hk
    · exact .inl hk
    · exact .inr (by simpa [World.setCell] using hk)
  · exact ((Only.of_below HB1.out).setCell HD.out.mine.1 _).setCell HD.out.mine.1 _
end Go.Proofs.Ytnaenokegomoeaa
