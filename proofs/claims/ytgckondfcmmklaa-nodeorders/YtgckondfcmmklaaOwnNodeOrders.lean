/-
  NodeOrders, of any three entries, answers true at the landed code; no conditions.
-/
import Derived.Test.YtgckondfcmmklaaRows
import Derived.Test.YtgckondfcmmklaaNdLawV
import Derived.Test.YtgckondfcmmklaaOpens
import Derived.WalkKit
import Derived.ProofKit
import Derived.OpenShut
import Derived.ShutString
import Derived.ChangeOld
import Derived.Below
namespace Go.Proofs.Ytgckondfcmmklaa.nodeOrders
open Go.ChangeShapes Go.WideShapes Go.ChangeAt Go.RowKit
open Go.ChangeMaps (open_string shut_string)
set_option linter.unusedVariables false

theorem own : ownKnob Try.prog.godebug = none := by kernel_rfl
theorem laidOut : laidOutB Try.prog = true := by kernel_rfl

set_option maxRecDepth 100000 in
theorem lifted (os : Os) (started : os.Started) (H : Type) (enc : TypeId × Value → H) :
    ReturnsInHanded {} Try.checked os 5 .any (Rows.nodeOrdersSpec.pre6 enc Try.prog Try.f5 Rows.nodeOrdersRow.domain false) (Rows.nodeOrdersSpec.post enc Try.prog Try.f5 false true false false) := by
  refine returnsInHanded_of_change (C := Try.checked) own started (by kernel_rfl) Try.func5
    (ChangeSpec.witness6 (enc := enc) (C := Try.checked) false ⟨#[], #[.agg #[.int .i64 0, .int .i64 0, .int .i64 0, .int .i64 0], .agg #[.int .i64 0, .int .i64 0, .int .i64 0, .int .i64 0], .agg #[.int .i64 0, .int .i64 0, .int .i64 0, .int .i64 0]], []⟩ 8 (by kernel_rfl) (by kernel_rfl) (by kernel_rfl) (by kernel_rfl)) ?_
  intro W base args ds gs before hval0 hW hcnd _
  have hval : ∀ (j : Nat) t v, Try.f5.params[j]? = some t → args[j]? = some v → Value.okWide Try.prog W .any base t v := hval0
  have hW' := hW
  obtain ⟨p, q, hA0, hV, rfl, hfz, hnd⟩ := hW
  have hA : DataW.TrodAll enc Try.prog W 0 (fun _ => true) true Try.f5.params.toList args.toList ds p := hA0
  rw [Try.params5] at hA hval
  obtain ⟨v0, vs0, d0, ds0, p0, q0, hargs, rfl, rfl, h0, r0⟩ := trodAll_cons hA
  obtain ⟨v1, vs1, d1, ds1, p1, q1, rfl, rfl, rfl, h1, r1⟩ := trodAll_cons r0
  obtain ⟨v2, vs2, d2, ds2, p2, q2, rfl, rfl, rfl, h2, r2⟩ := trodAll_cons r1
  obtain ⟨rfl, rfl, rfl⟩ := trodAll_nil r2
  obtain rfl : args = #[v0, v1, v2] := by cases args; simp_all
  obtain ⟨rfl, rfl⟩ := trodVars_none hV
  have k0 := h0
  have lt0 : ∀ x ∈ p0, x.block < W.heap.size := by obtain ⟨m, hm⟩ := k0; exact DataW.trod_lt m _ _ _ hm
  obtain ⟨cs0, rfl, sz0⟩ := okWide_struct Try.underlying25 (hval 0 25 v0 rfl rfl)
  obtain ⟨es0, eg0, ek0, ev0, ecs0, ws0, wg0, wk0, wv0⟩ : ∃ s g k v : Int, cs0 = #[.int .i64 s, .int .i64 g, .int .i64 k, .int .i64 v] ∧ (Lit.int .i64 s).wf = true ∧ (Lit.int .i64 g).wf = true ∧ (Lit.int .i64 k).wf = true ∧ (Lit.int .i64 v).wf = true := by
    obtain ⟨fuel, hf⟩ := h0
    obtain ⟨s, g, k, v, hcs, q⟩ := entry_of hf
    exact ⟨s, g, k, v, Array.toList_inj.1 (by simpa [Value.cells] using hcs), q⟩
  subst ecs0
  have k1 := h1
  have lt1 : ∀ x ∈ p1, x.block < W.heap.size := by obtain ⟨m, hm⟩ := k1; exact DataW.trod_lt m _ _ _ hm
  obtain ⟨cs1, rfl, sz1⟩ := okWide_struct Try.underlying25 (hval 1 25 v1 rfl rfl)
  obtain ⟨es1, eg1, ek1, ev1, ecs1, ws1, wg1, wk1, wv1⟩ : ∃ s g k v : Int, cs1 = #[.int .i64 s, .int .i64 g, .int .i64 k, .int .i64 v] ∧ (Lit.int .i64 s).wf = true ∧ (Lit.int .i64 g).wf = true ∧ (Lit.int .i64 k).wf = true ∧ (Lit.int .i64 v).wf = true := by
    obtain ⟨fuel, hf⟩ := h1
    obtain ⟨s, g, k, v, hcs, q⟩ := entry_of hf
    exact ⟨s, g, k, v, Array.toList_inj.1 (by simpa [Value.cells] using hcs), q⟩
  subst ecs1
  have k2 := h2
  have lt2 : ∀ x ∈ p2, x.block < W.heap.size := by obtain ⟨m, hm⟩ := k2; exact DataW.trod_lt m _ _ _ hm
  obtain ⟨cs2, rfl, sz2⟩ := okWide_struct Try.underlying25 (hval 2 25 v2 rfl rfl)
  obtain ⟨es2, eg2, ek2, ev2, ecs2, ws2, wg2, wk2, wv2⟩ : ∃ s g k v : Int, cs2 = #[.int .i64 s, .int .i64 g, .int .i64 k, .int .i64 v] ∧ (Lit.int .i64 s).wf = true ∧ (Lit.int .i64 g).wf = true ∧ (Lit.int .i64 k).wf = true ∧ (Lit.int .i64 v).wf = true := by
    obtain ⟨fuel, hf⟩ := h2
    obtain ⟨s, g, k, v, hcs, q⟩ := entry_of hf
    exact ⟨s, g, k, v, Array.toList_inj.1 (by simpa [Value.cells] using hcs), q⟩
  subst ecs2
  clear hA0 hval0
  refine (nodeorders_any es0 eg0 ek0 ev0 es1 eg1 ek1 ev1 es2 eg2 ek2 ev2 _).mono fun e W' ⟨he, bel⟩ => ?_
  subst he
  exact ⟨_, rfl, _, _, _, [], _, [], hW', trodAll_mk1 (shut_bool Try.underlying4 _), (trodAll_cons_mk (Below.trod laidOut (by kernel_rfl) (of_decide_eq_true (by kernel_rfl)) k0 bel lt0) (trodAll_cons_mk (Below.trod laidOut (by kernel_rfl) (of_decide_eq_true (by kernel_rfl)) k1 bel lt1) (trodAll_cons_mk (Below.trod laidOut (by kernel_rfl) (of_decide_eq_true (by kernel_rfl)) k2 bel lt2) trodAll_mk0))), rfl, bel.frame _, fun h => by cases h⟩

theorem over : Rows.nodeOrdersRow.holds Try.pinned (OpenSpec.ofChange Rows.nodeOrdersSpec) :=
  OpenClaim.holds_of_wide 5 Try.f5 rfl rfl rfl rfl rfl rfl rfl ⟨rfl, rfl, rfl, rfl, rfl⟩ rfl rfl rfl rfl rfl (by kernel_rfl) Try.func5 (by kernel_rfl)
    (of_decide_eq_true (by kernel_rfl)) (by unfold Func.isWrapper; first | (rw [if_pos (by decide +kernel)]; kernel_rfl) | (rw [if_neg (by decide +kernel)]; exact ⟨rfl, rfl⟩))
    (fun os started H enc _ => lifted os started H enc)

/-- The given statement. -/
theorem proved : Rows.NodeOrdersSaid := over
end Go.Proofs.Ytgckondfcmmklaa.nodeOrders
